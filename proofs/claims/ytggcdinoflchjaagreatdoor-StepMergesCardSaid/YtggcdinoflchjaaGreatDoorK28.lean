/- laws -/
import Derived.Test.YtggcdinoflchjaaGreatDoorK27
set_option maxRecDepth 100000
set_option maxHeartbeats 16000000
namespace Go.Proofs.YtggcdinoflchjaaGreatDoor
open Go.RowKit
def ZaL (m:Mth):List UInt8:=[40]++(Lib.join m.params [44]++([41]++m.res))
def Mth.brief (m:Mth):Prop:=(Lib.join m.params [44]).length<=70368744177664/\m.res.length<=70368744177664/\m.params.length<=70368744177664
theorem Zq8 (l:List (List UInt8)):(l.map S).map (·.data.toList)=l:=by
 rw [Yb4]
 conv=>rhs;rw [←List.map_id l]
 exact Yck (fun x _=>rfl)
theorem Zo5 {A:Nat->Prop} {w:World} {po:Option Addr} {pc:Nat} (l:List (List UInt8)) (hs:Src 1 StrR A w (.slice po l.length pc) l) (hl:(Lib.join l [44]).length<=70368744177664) (hn:l.length<=70368744177664) :
  Calls Tryz.prog 226 #[.slice po l.length pc,.string ⟨#[44]⟩] w fun e w'=>e=.returned (.string (S (Lib.join l [44])))/\Below w.heap.size w w':=by
 rcases hs with ⟨ao,cp0,he,rfl⟩|⟨b,o,cap,he,⟨_,hb,hc,_⟩,hcl⟩
 ·exact (strings_Join_none po pc ⟨#[44]⟩ w).mono fun e w' ⟨h1,h2⟩=>⟨h1,h2 ▸ Yab _ _⟩
 ·simp at he
  obtain ⟨rfl,rfl⟩:=he;have h:=strings_Join b o pc (l.map S) ⟨#[44]⟩ w (fun j x hx=>by
   rw [Yaw,YaW] at hx;obtain ⟨y,hy,rfl⟩:=hx;obtain ⟨v,hv,_,hcv⟩:=hcl j y hy;obtain rfl:=hv;have q:=hcv 0 _ rfl;rw [YaC] at q;exact q) hb (by rw [YaB];omega) (by rw [YaB];exact hc) (by rw [Zq8];show (Lib.join l [44]).length<=_;omega)
  rw [Zq8,YaB] at h;exact h
theorem Zej {A:Nat->Prop} (m:Mth) (v:Value) (w:World) (hv:MthR A w m v) (hb:m.brief) :
  Calls Tryz.prog 182 #[v] w (ZbT (ZaL m) w):=by
 obtain ⟨pv,cv,kv,rfl,hp,hcd,hkt⟩:=hv;obtain ⟨po,pc,rfl⟩:=hp.shape;obtain ⟨co,cc,rfl⟩:=hcd.shape;obtain ⟨ko,kc,rfl⟩:=hkt.shape;have hb0:Below w.heap.size w (w.alloc (.cells #[.string (S m.name),.slice po m.params.length pc,.string (S m.res),.bool m.abs,.int .i64 m.loc,.slice co m.code.length cc,.slice ko m.cats.length kc] 44)):=(Yab _ w).alloc (Yac _) _;have HB0:=Hd hb0;have HBX:=Hd (Box.new w #[.string (S m.name),.slice po m.params.length pc,.string (S m.res),.bool m.abs,.int .i64 m.loc,.slice co m.code.length cc,.slice ko m.cats.length kc] 44);have HJ:Hid (∀ W,Below (w.alloc (.cells #[.string (S m.name),.slice po m.params.length pc,.string (S m.res),.bool m.abs,.int .i64 m.loc,.slice co m.code.length cc,.slice ko m.cats.length kc] 44)).heap.size (w.alloc (.cells #[.string (S m.name),.slice po m.params.length pc,.string (S m.res),.bool m.abs,.int .i64 m.loc,.slice co m.code.length cc,.slice ko m.cats.length kc] 44)) W->Calls Tryz.prog 226 #[.slice po m.params.length pc,.string ⟨#[44]⟩] W fun e w'=>e=.returned (.string (S (Lib.join m.params [44])))/\Below W.heap.size W w'):=Hd (fun W hW=>Zo5 m.params (StrR.st.below (StrR.st.below hp hb0) hW) hb.1 hb.2.2);have e1:S (ZaL m)=S [40]++S (Lib.join m.params [44])++S [41]++S m.res:=by unfold ZaL;rw [Zcx,Zcx,Zcx];congr 1;simp
 have hj:(S (Lib.join m.params [44])).size<=70368744177664:=by rw [ZaB];exact hb.1
 have hr:(S m.res).size<=70368744177664:=by rw [ZaB];exact hb.2.1
 clear hp hcd hkt hb0 hb;obtain ⟨R,hR⟩:∃ R,R=S (ZaL m):=⟨_,rfl⟩
 unfold ZbT;rw [←hR];rw [←hR] at e1;generalize S (Lib.join m.params [44])=uJ at HJ hj e1;have HE:=Hd e1;clear e1 hR;obtain ⟨name,params,res,ab,loc,code,cats⟩:=m;dsimp only at *;generalize S res=uR at HB0 HBX HJ HE hr ⊢;generalize params.length=n1 at *;generalize code.length=n2 at *;generalize cats.length=n3 at *;go_enter Tryz.func182,Tryz.ntmps182
 go_upto_region 1 with fail
 generalize w.alloc (.cells #[.string (S name),.slice po n1 pc,.string uR,.bool ab,.int .i64 loc,.slice co n2 cc,.slice ko n3 kc] 44)=W0 at HB0 HBX HJ ⊢;obtain ⟨B,hB⟩:∃ B,B=w.heap.size:=⟨_,rfl⟩
 rw [←hB] at HBX ⊢;clear hB;have HS:Hid (∀ W,Below W0.heap.size W0 W->W.cell? ⟨B,1,none⟩=some (.slice po n1 pc)/\W.cell? ⟨B,2,none⟩=some (.string uR)):=Hd (fun W hW=>⟨(HBX.o.below hW).cell 1 rfl,(HBX.o.below hW).cell 2 rfl⟩);obtain ⟨g0,g1⟩:=HS.o _ (Yab _ W0);have k1:¬ (9223372036854775807<1+uJ.size):=by omega
 have k2:¬ (9223372036854775807<1+uJ.size+1):=by omega
 have k3:¬ (9223372036854775807<1+uJ.size+1+uR.size):=by omega
 first
 | (go_region_held (fun W=>W.cell? ⟨B,1,none⟩=some (.slice po n1 pc)/\W.cell? ⟨B,2,none⟩=some (.string uR)) ((refine HS.o _ ?_;(repeat (first|(with_reducible exact Yab _ _)|(with_reducible (apply Zad;rotate_left;assumption))|(with_reducible refine Zab ?_)))))
   (first|((with_reducible refine (HJ.o _ ?_).mono ?_);(focus ((repeat (first|(with_reducible exact Yab _ _)|(with_reducible (apply Zad;rotate_left;assumption))|(with_reducible refine Zab ?_)));done));rintro e w1 ⟨rfl,b9⟩)))
 | fail
 have hbe:Below w.heap.size w w1:=HB0.o.trans (YbP (by (repeat (first|(with_reducible exact b9)|(with_reducible (apply Zad;rotate_left;assumption))|(with_reducible exact Yab _ _)|(with_reducible refine Zab ?_)))) HB0.o.size);go_wp2;go_ret;exact ⟨by rw [HE.o];rfl,hbe⟩
theorem Zm9 (l:List (List UInt8)) (k:Nat) (x:List UInt8) (h:l[k]? = some x):Lib.join (l.take (k+1)) [44]=Lib.join (l.take k) [44]++((if k=0 then [] else [44])++x):=by
 cases l with
 | nil=>simp at h
 | cons y r=>
  cases k with
  | zero=>simp at h;subst h;simp [Lib.join_one,Lib.join_nil]
  | succ k=>
   have h':r[k]? = some x:=by simpa using h
   rw [List.take_succ_cons,List.take_succ_cons,Lib.join_cons,Lib.join_cons,Lib.joinTail_take_succ _ _ _ _ h',Yaq (by omega)];simp
theorem Ze1 (l:List (List UInt8)) (k:Nat):(Lib.join (l.take k) [44]).length<=(Lib.join l [44]).length:=by
 cases l with
 | nil=>simp [Lib.join_nil]
 | cons y r=>
  cases k with
  | zero=>simp [Lib.join_nil]
  | succ k=>
   rw [List.take_succ_cons,Lib.join_cons,Lib.join_cons,Yal,Yal];have:=Lib.joinTail_take_le [44] r k;omega
theorem ZfW {A:Nat->Prop} (m:Mth) (v:Value) (w:World) (hv:MthR A w m v) (hb:m.brief) :
  Calls Tryz.prog 121 #[v] w (ZbT (ZaL m) w):=by
 obtain ⟨pv,cv,kv,rfl,hp,hcd,hkt⟩:=hv;obtain ⟨po,pc,rfl⟩:=hp.shape;obtain ⟨co,cc,rfl⟩:=hcd.shape;obtain ⟨ko,kc,rfl⟩:=hkt.shape;have hb0:Below w.heap.size w (w.alloc (.cells #[.string (S m.name),.slice po m.params.length pc,.string (S m.res),.bool m.abs,.int .i64 m.loc,.slice co m.code.length cc,.slice ko m.cats.length kc] 44)):=(Yab _ w).alloc (Yac _) _;have HB0:=Hd hb0;have HBX:=Hd (Box.new w #[.string (S m.name),.slice po m.params.length pc,.string (S m.res),.bool m.abs,.int .i64 m.loc,.slice co m.code.length cc,.slice ko m.cats.length kc] 44);have HC:=Hd (Src.elem (StrR.st.below hp hb0));have hn1:m.params.length<=70368744177664:=hb.2.2;have HJ:=Hd hb.1;have hr:(S m.res).size<=70368744177664:=by rw [ZaB];exact hb.2.1
 have he:S (ZaL m)=S ([40]++Lib.join m.params [44])++S [41]++S m.res:=by unfold ZaL;rw [Zcx,Zcx];congr 1;simp
 obtain ⟨R,hR⟩:∃ R,R=S (ZaL m):=⟨_,rfl⟩
 unfold ZbT;rw [←hR];rw [←hR] at he;have HE:=Hd he;clear he hR hp hcd hkt hb0 hb;obtain ⟨n,hn⟩:∃ n,n=m.params.length:=⟨_,rfl⟩
 have HN:=Hd hn;simp only [←hn] at HB0 HBX HC hn1 ⊢;clear hn;obtain ⟨name,params,res,ab,loc,code,cats⟩:=m;dsimp only at *;generalize S res=uR at HB0 HBX HC HE hr ⊢;go_enter Tryz.func121,Tryz.ntmps121;go_wp2;generalize w.alloc (.cells #[.string (S name),.slice po n pc,.string uR,.bool ab,.int .i64 loc,.slice co code.length cc,.slice ko cats.length kc] 44)=W0 at HB0 HBX HC ⊢;obtain ⟨B,hB⟩:∃ B,B=w.heap.size:=⟨_,rfl⟩
 rw [←hB] at HBX ⊢;clear hB;have c1:=HBX.o.cell 1 rfl
 go_loop [3,4] (fun v3 v4=>∃ k:Nat,k<=n/\v4=.int .i64 k/\v3=.string (S ([40]++Lib.join (params.take k) [44]))) (fun _ v4=>n - (intOf v4).toNat)
 case atStart=>exact ⟨0,Yai _,rfl,rfl⟩
 case round=>
  obtain ⟨k,hk,rfl,rfl⟩:=hrel;by_cases hlt:k<n
  ·have hkl:k<params.length:=by have:=HN.o;omega
   obtain ⟨x,hx⟩:∃ x,params[k]? = some x:=⟨_,Yaa hkl⟩
   obtain ⟨b,o,v,rfl,hv,hsz,hcl⟩:=HC.o k x hx;obtain rfl:=hv;have d0:W0.cell? ⟨b,o+k,none⟩=some (.string (S x)):=by have q:=hcl 0 _ rfl;rw [YaC] at q;exact q
   have hjt:=Zm9 params k x hx;have hl1:=Ze1 params k;have hl2:=Ze1 params (k+1);rw [hjt,Yal,Yal] at hl2;have hl0:=HJ.o;have hA:(S ([40]++Lib.join (params.take k) [44])).size<=70368744177665:=by rw [ZaB,Yal];simp;omega
   have hX:(S x).size<=70368744177664:=by rw [ZaB];omega
   have hk0:(0:Int)<=k:=by omega
   have hkn:(k:Int)<(n:Int):=by omega
   by_cases hz:k=0
   ·subst hz;have e1:S ([40]++Lib.join (params.take (0+1)) [44])=S ([40]++Lib.join (params.take 0) [44])++S x:=by rw [hjt,Zcx];exact Ya5 S (by simp)
    have HE1:=Hd e1;clear hx hkl hcl hsz hjt hl1 hl2 hl0 e1;generalize S ([40]++Lib.join (params.take 0) [44])=uA at HE1 hA ⊢;generalize S x=uX at HE1 hX d0;rw [Ycf] at d0;go_wp2
    go_round
    case rel=>exact ⟨0+1,by omega,by go_num,by rw [HE1.o]⟩
    case measure=>simp [intOf];omega
   ·have hkp:(0:Int)<(k:Int):=by omega
    have e1:S ([40]++Lib.join (params.take (k+1)) [44])=S ([40]++Lib.join (params.take k) [44])++S [44]++S x:=by rw [hjt,Zcx,Zcx,Yaq hz];exact Ya5 S (by simp)
    have HE1:=Hd e1;clear hx hkl hcl hsz hjt hl1 hl2 hl0 e1 hz;generalize S ([40]++Lib.join (params.take k) [44])=uA at HE1 hA ⊢;generalize S x=uX at HE1 hX d0;go_wp2
    go_round
    case rel=>exact ⟨k+1,by omega,by go_num,by rw [HE1.o];rfl⟩
    case measure=>simp [intOf];omega
  ·obtain rfl:n=k:=by omega
   rw [HN.o,Yay (Yac _)];have c2:=HBX.o.cell 2 rfl;have hA:(S ([40]++Lib.join params [44])).size<=70368744177665:=by have:=HJ.o;rw [ZaB,Yal];simp;omega
   have hkn:¬ ((n:Int)<(n:Int)):=by omega
   generalize S ([40]++Lib.join params [44])=uA at HE hA ⊢;rw [←HN.o];go_wp2;go_ret;exact ⟨by rw [HE.o];rfl,HB0.o⟩
end Go.Proofs.YtggcdinoflchjaaGreatDoor
namespace Go.Proofs.YtggcdinoflchjaaGreatDoor
theorem ZqG (l:List (List UInt8)) (n:Nat) (h:∀ x ∈ l,x.length<=n):(Lib.joinTail [44] l).length<=l.length * (n+1):=by
 induction l with
 | nil=>simp [Lib.joinTail]
 | cons x l ih=>
  have h1:=h x Yak;have h2:=ih (fun y hy=>h y (Yas _ hy));have e:Lib.joinTail [44] (x :: l)=44 :: (x++Lib.joinTail [44] l):=by simp [Lib.joinTail]
  rw [e,YaJ,Yal,YaJ,Nat.add_mul];omega
theorem Mth.Good.brief {m:Mth} (h:m.Good):m.brief:=by
 have h1:=h.nums.1;have h2:=h.res_len;have h3:∀ x ∈ m.params,x.length<=38:=fun x hx=>Zdt (h.params x hx)
 have hj:(Lib.join m.params [44]).length<=2000:=by
  cases hp:m.params with
  | nil=>rw [Lib.join_nil];simp
  | cons x r=>
   rw [hp] at h1 h3;have a:=h3 x Yak;have b:=ZqG r 38 (fun y hy=>h3 y (Yas _ hy));rw [YaJ] at h1;rw [Lib.join_cons,Yal];omega
 exact ⟨by omega,by omega,by omega⟩
end Go.Proofs.YtggcdinoflchjaaGreatDoor
namespace Go.Proofs.YtggcdinoflchjaaGreatDoor
open Go.RowKit
theorem ZnQ:∀ k,k<42->(ZaM k).length<=6:=by decide
theorem Mth.Good.small {m:Mth} (h:m.Good):m.Small:=by
 have h1:=Zg3 h.name;have h2:=h.res_len;have h3:=h.nums;have h0:m.abs=true->m.code.length=0/\m.cats.length=0:=fun ha=>by
  have:=h.body;unfold Mth.body at this;rw [ha] at this;simp only [if_true,Yat,YaO] at this;exact this.2
 refine ⟨by omega,by omega,by omega,by omega,by omega,fun x hx=>?_,fun x hx=>?_,fun x hx=>?_⟩
 ·have:=Zdt (h.params x hx);omega
 ·cases ha:m.abs with
  | true=>rw [YaZ.1 (h0 ha).1] at hx;cases hx
  | false=>
   obtain ⟨_,g2,_,_⟩:=h.real ha;obtain ⟨k1,_,k3⟩:=Zqj (g2 x hx) (h.held.2.1 x hx);have hi:=(ZgY k1).1;have hop:=(ZgY k1).2.1;have:=ZnQ _ hi;rw [hop] at this;exact ⟨by omega,by omega⟩
 ·cases ha:m.abs with
  | true=>rw [YaZ.1 (h0 ha).2] at hx;cases hx
  | false=>
   obtain ⟨_,_,g3,_⟩:=h.real ha;have:=Zdi (ZoG (g3 x hx) h3.2.2.1).2.2.2;omega
theorem Cls.Good.small {c:Cls} (h:c.Good):c.Small:=by
 have h1:=Zdi h.name;have h2:=h.nums;have h3:=Zdi h.above.1;refine ⟨by omega,by omega,by omega,by omega,by omega,fun x hx=>?_,fun x hx=>?_,fun x hx=>(h.mths x hx).small⟩
 ·have:=Zdi (h.above.2 x hx);omega
 ·have:=h.flds x hx;unfold Fld.ok at this;rw [Yat] at this;have h4:=Zg3 this.1;have h5:=Zdt this.2;omega
theorem Cls.Good.apart {c:Cls} (h:c.Good):c.sup ≠ c.name/\c.name ∉ c.like:=by
 have h1:=h.parts.2;unfold Cls.fine Cls.names at h1;simp only [Yat,Ya7,YaU,beq_iff_eq] at h1;have h2:=h1.1.2.2.1;exact ⟨fun e=>h2 c.sup Yak e,fun e=>h2 c.name (Yas _ e) rfl⟩
def rawE (c:Cls):Ent:=⟨c,none,[]⟩
def Zay (cs:List Cls) (k:Nat):List Ent:=startL++(cs.take k).map rawE
def Zav (cs:List Cls):List Ent:=startL++cs.map rawE
def Zdd (cs:List Cls) (c:Cls):Ent:=⟨c,upE (Zav cs) c.sup,ZbF (Zav cs) c.like⟩
def Zbk (cs:List Cls) (k:Nat):List Ent:=startL++((cs.take k).map (Zdd cs)++(cs.drop k).map rawE)
def newT (cs:List Cls):List Ent:=startL++cs.map (Zdd cs)
theorem Zem (cs:List Cls):Zay cs 0=startL:=by simp [Zay]
theorem Zc5 (cs:List Cls):Zay cs cs.length=Zav cs:=by unfold Zay Zav;rw [YaF]
theorem Zh7 (cs:List Cls):Zbk cs 0=Zav cs:=by simp [Zbk,Zav]
theorem ZfD (cs:List Cls):Zbk cs cs.length=newT cs:=by unfold Zbk newT;rw [YaF,List.drop_length];simp
theorem ZhG (cs:List Cls) {k:Nat} (h:k<=cs.length):(Zay cs k).length=8+k:=by unfold Zay;rw [Yal,ZaH,YaB,Yaz,Ya4 h]
theorem ZaT (cs:List Cls):(newT cs).length=8+cs.length:=by unfold newT;rw [Yal,ZaH,YaB]
theorem Zeb (cs:List Cls) {k:Nat} (h:k<=cs.length):(Zbk cs k).length=8+cs.length:=by
 unfold Zbk;rw [Yal,ZaH,Yal,YaB,YaB,Yaz,YbA,Ya4 h];omega
theorem Zel {cs:List Cls} {k:Nat} {c:Cls} (h:cs[k]? = some c):Zay cs (k+1)=Zay cs k++[rawE c]:=by
 unfold Zay;rw [YaI,h,Ybb,YaY];rfl
theorem Zjb {cs:List Cls} {k:Nat} {c:Cls} (h:cs[k]? = some c):(Zbk cs k)[8+k]? = some (rawE c):=by
 have hk:=(Yag.1 h).1;unfold Zbk;have h1:((cs.take k).map (Zdd cs)).length=k:=by rw [YaB,Yaz,Ya4 (Nat.le_of_lt hk)]
 rw [YaK (by rw [ZaH];omega),ZaH,YaK (by rw [h1];omega),h1,show 8+k - 8 - k=0 by omega,Yaw,YbG,Ycf,h];rfl
theorem Zh6 {cs:List Cls} {k:Nat} {c:Cls} (h:cs[k]? = some c):(Zbk cs k).set (8+k) (Zdd cs c)=Zbk cs (k+1):=by
 have hk:=(Yag.1 h).1;have h1:((cs.take k).map (Zdd cs)).length=k:=by rw [YaB,Yaz,Ya4 (Nat.le_of_lt hk)]
 unfold Zbk;rw [Ycu _ _ (by rw [ZaH];omega),ZaH,Ycu _ _ (by rw [h1];omega),h1,show 8+k - 8 - k=0 by omega];have h2:cs.drop k=c :: cs.drop (k+1):=by
  rw [YbJ hk];rw [(Yag.1 h).2]
 rw [h2,YbH,Ybn,YaI,h,Ybb];simp
theorem Zbx {es es':List Ent} (h:es.map Ent.cls=es'.map Ent.cls) (n:List UInt8):Zac es n=Zac es' n:=by
 have e:∀ es:List Ent,Zac es n=(es.map Ent.cls).findIdx? (fun c=>c.name == n):=fun es=>by unfold Zac;rw [List.findIdx?_map];rfl
 rw [e,e,h]
theorem Zi3 {es es':List Ent} (h:es.map Ent.cls=es'.map Ent.cls) (i:Nat):(es[i]?).map Ent.cls=(es'[i]?).map Ent.cls:=by
 rw [←Yaw,←Yaw,h]
theorem Zes {es es':List Ent} (h:es.map Ent.cls=es'.map Ent.cls) (i:Nat):ZcB es i=ZcB es' i:=by
 have h1:=Zi3 h i;unfold ZcB;cases h2:es[i]? <;> cases h3:es'[i]? <;> rw [h2,h3] at h1 <;> simp at h1
 all_goals first|rfl|(dsimp only;rw [h1])
theorem ZmG {es es':List Ent} (h:es.map Ent.cls=es'.map Ent.cls) (i:Nat):Zfr es i=Zfr es' i:=by
 have h1:=Zi3 h i;unfold Zfr;cases h2:es[i]? <;> cases h3:es'[i]? <;> rw [h2,h3] at h1 <;> simp at h1
 all_goals first|rfl|(dsimp only;rw [h1])
theorem Zom {es es':List Ent} (h:es.map Ent.cls=es'.map Ent.cls) (n:List UInt8):upE es n=upE es' n:=by
 unfold upE;rw [Zbx h];cases Zac es' n with
 | none=>rfl
 | some j=>dsimp only;rw [Zes h,ZmG h]
theorem Zh2 {es es':List Ent} (h:es.map Ent.cls=es'.map Ent.cls) (n:List UInt8):Zcs es n=Zcs es' n:=by
 unfold Zcs;rw [Zbx h];cases Zac es' n with
 | none=>rfl
 | some j=>dsimp only;rw [Zes h]
theorem ZkO {es es':List Ent} (h:es.map Ent.cls=es'.map Ent.cls) (l:List (List UInt8)):ZbF es l=ZbF es' l:=by
 unfold ZbF;exact Yck (fun n _=>by rw [Zh2 h])
theorem ZfA {es es':List Ent} (h:es.map Ent.cls=es'.map Ent.cls) (l:List (List UInt8)):ZaI es l=ZaI es' l:=by
 unfold ZaI
 congr 1
 funext n
 rw [Zh2 h]
theorem ZfE (cs:List Cls) (k:Nat):(Zbk cs k).map Ent.cls=(Zav cs).map Ent.cls:=by
 unfold Zbk Zav;rw [Ybb,Ybb,Ybb,Yb4,Yb4,Yb4]
 congr 1
 conv=>rhs;rw [←Ya2 k cs,Ybb]
 rfl
theorem Zcp (cs:List Cls):(newT cs).map Ent.cls=(Zav cs).map Ent.cls:=by rw [←ZfD];exact ZfE cs _
def Uniq (es:List Ent):Prop:=∀ (i:Nat) (e:Ent),es[i]? = some e->Zac es e.cls.name=some i
theorem ZjC:Uniq startL:=fun i e h=>by
 match i,h with
 | 0,h=>obtain rfl:=Yae h;decide
 | 1,h=>obtain rfl:=Yae h;decide
 | 2,h=>obtain rfl:=Yae h;decide
 | 3,h=>obtain rfl:=Yae h;decide
 | 4,h=>obtain rfl:=Yae h;decide
 | 5,h=>obtain rfl:=Yae h;decide
 | 6,h=>obtain rfl:=Yae h;decide
 | 7,h=>obtain rfl:=Yae h;decide
 | k+8,h=>rw [YaT (by rw [ZaH];omega)] at h;cases h
theorem Uniq.snoc {es:List Ent} (h:Uniq es) {e:Ent} (hn:Zac es e.cls.name=none):Uniq (es++[e]):=fun i x hx=>by
 rw [Zds];rcases YaE i es.length with h1|h1
 ·rw [YaP h1] at hx;rw [h i x hx]
 ·have h2:i=es.length:=by
   have:=(Yag.1 hx).1;rw [Yal] at this;simp at this
   omega
  subst h2;rw [YaK (Yac _),Ycx] at hx;obtain rfl:=Yae hx;rw [hn];simp
theorem ZcA {cs:List Cls} (hn:∀ k c,cs[k]? = some c->Zac (Zay cs k) c.name=none):∀ k,k<=cs.length->Uniq (Zay cs k)
 | 0,_=>by rw [Zem];exact ZjC
 | k+1,hk=>by
  have hc:cs[k]? = some cs[k]:=Yaa (by omega);rw [Zel hc];exact (ZcA hn k (by omega)).snoc (hn k _ hc)
theorem Uniq.cls {es es':List Ent} (h:es.map Ent.cls=es'.map Ent.cls) (u:Uniq es'):Uniq es:=fun i e he=>by
 rw [Zbx h];have h1:=Zi3 h i;rw [he] at h1;cases h2:es'[i]? with
 | none=>rw [h2] at h1;cases h1
 | some e'=>
  rw [h2] at h1;rw [Yae (show some e.cls=some e'.cls from h1)];exact u i e' h2
structure Lined (cs:List Cls):Prop where
 len:cs.length<=1000
 good:∀ c ∈ cs,c.Good
 names:∀ k c,cs[k]? = some c->Zac (Zay cs k) c.name=none
 ups:∀ c ∈ cs,(upE (Zav cs) c.sup).isSome=true
 likes:∀ c ∈ cs,ZaI (Zav cs) c.like=true
theorem Lined.uniq {cs:List Cls} (h:Lined cs):Uniq (newT cs):=by
 refine Uniq.cls (Zcp cs) ?_;rw [←Zc5];exact ZcA h.names _ (Yac _)
theorem Zbm {cs:List Cls} {i:Nat} {e:Ent} (h:(newT cs)[i]? = some e):(i<8/\startL[i]? = some e)\/(8<=i/\∃ c,cs[i - 8]? = some c/\e=Zdd cs c):=by
 unfold newT at h;rcases YaE i 8 with h1|h1
 ·rw [YaP (by rw [ZaH];exact h1)] at h;exact .inl ⟨h1,h⟩
 ·rw [YaK (by rw [ZaH];exact h1),ZaH,Yaw] at h;obtain ⟨c,h2,h3⟩:=YaW.1 h;exact .inr ⟨h1,c,h2,h3.symm⟩
theorem Zhv (cs:List Cls):(Zav cs).length=8+cs.length:=by unfold Zav;rw [Yal,ZaH,YaB]
theorem Ziq:∀ i,i<8->∀ d ∈ parE startL i,d<2/\d ≠ i:=by decide
theorem ZcJ {cs:List Cls} {i:Nat} (h:i<8):parE (newT cs) i=parE startL i:=by
 unfold parE newT;rw [YaP (by rw [ZaH];exact h)]
theorem Lined.par {cs:List Cls} (h:Lined cs):Zdf (newT cs):=fun c d hd=>by
 rw [ZaT];cases he:(newT cs)[c]? with
 | none=>unfold parE at hd;rw [he] at hd;cases hd
 | some e=>
  rcases Zbm he with ⟨h1,h2⟩|⟨h1,x,h2,rfl⟩
  ·rw [ZcJ h1] at hd;have:=(Ziq c h1 d hd).1;omega
  ·rw [ZcY he] at hd;unfold Ent.par Zdd at hd;have hx:=Yad h2;rcases Yap.1 hd with h3|h3
   ·have h4:upE (Zav cs) x.sup=some d:=by simpa using h3
    have:=(Ziw h4).2;rw [Zhv] at this;exact this
   ·have:=Zh3 (h.likes x hx) d h3;rw [Zhv] at this;exact this
theorem ZdE {es:List Ent} {n:List UInt8} {i:Nat} (h:Zac es n=some i):∃ e,es[i]? = some e/\e.cls.name=n:=by
 unfold Zac at h;obtain ⟨h1,h2,_⟩:=YaX.1 h;exact ⟨es[i],Yaa h1,by simpa using h2⟩
theorem ZcT {es:List Ent} {n:List UInt8} {j:Nat} (h:Zcs es n=some j):Zac es n=some j/\ZcB es j=true:=by
 unfold Zcs at h;cases hp:Zac es n with
 | none=>rw [hp] at h;cases h
 | some i=>
  rw [hp] at h;dsimp only at h;split at h
  ·rename_i hi
   obtain rfl:=Yae h;exact ⟨rfl,hi⟩
  ·cases h
theorem Lined.self {cs:List Cls} (h:Lined cs) (c:Nat):c ∉ parE (newT cs) c:=fun hd=>by
 cases he:(newT cs)[c]? with
 | none=>unfold parE at hd;rw [he] at hd;cases hd
 | some e=>
  rcases Zbm he with ⟨h1,h2⟩|⟨h1,x,h2,rfl⟩
  ·rw [ZcJ h1] at hd;exact (Ziq c h1 c hd).2 rfl
  ·rw [ZcY he] at hd;unfold Ent.par Zdd at hd;have hx:=Yad h2;have hap:=(h.good x hx).apart;have key:∀ n,Zac (Zav cs) n=some c->x.name=n:=fun n hp=>by
    rw [←Zbx (Zcp cs)] at hp;obtain ⟨e2,h5,h6⟩:=ZdE hp;rw [he] at h5;obtain rfl:=Yae h5;exact h6
   rcases Yap.1 hd with h3|h3
   ·have h4:upE (Zav cs) x.sup=some c:=by simpa using h3
    exact hap.1 (key _ (Ziw h4).1).symm
   ·obtain ⟨n,hn1,hn2⟩:=Ybc.1 (show c ∈ x.like.map fun n=>(Zcs (Zav cs) n).getD 0 from h3);have h5:=YaH.1 (h.likes x hx) n hn1;obtain ⟨j,hj⟩:=YaL.1 h5;rw [hj] at hn2;obtain rfl:j=c:=hn2;exact hap.2 ((key _ (ZcT hj).1) ▸ hn1)
theorem ZjD:∀ e ∈ startL,e.cls.name.length<=32/\e.cls.flds.length<=32/\e.cls.mths.length<=32/\e.lk.length<=32:=by
 have h:startL.all (fun e=>decide (e.cls.name.length<=32/\e.cls.flds.length<=32/\e.cls.mths.length<=32/\e.lk.length<=32))=true:=by decide
 exact fun e he=>of_decide_eq_true (YaH.1 h e he)
theorem Lined.small {cs:List Cls} (h:Lined cs) (i:Nat) (e:Ent) (he:(newT cs)[i]? = some e):e.cls.name.length<=32/\e.cls.flds.length<=32/\e.cls.mths.length<=32/\e.lk.length<=32:=by
 rcases Zbm he with ⟨h1,h2⟩|⟨h1,x,h2,rfl⟩
 ·exact ZjD e (Yad h2)
 ·have hg:=h.good x (Yad h2);have h3:=Zdi hg.name;have h4:=hg.nums;refine ⟨h3,h4.2.1,h4.2.2,?_⟩;show (ZbF (Zav cs) x.like).length<=32
  unfold ZbF;rw [YaB];exact h4.1
theorem Lined.shape {cs:List Cls} (h:Lined cs) (ha:Acyc (newT cs)):Shape (newT cs):=
 ha.shape h.par (by rw [ZaT];have:=h.len;omega) (fun i e he=>by have:=(h.small i e he).2.2.2;omega) (fun i e he=>(h.small i e he).2.1) (fun i e he=>(h.small i e he).1)
theorem Zkf (B:Nat->Nat) (F:Nat) (caps:Array Value) (x:Nat) (Y N:World->Prop) (w:World) (he:∀ args w,(callFunc F args).run Tryz.prog w=.ok (.enter F args) w)
  (h:Calls Tryz.prog F (#[entV B x]++caps) w (YesNo Y (fun w1=>
   Calls Tryz.prog 225 #[.pointer (some ⟨B x,0,none⟩),.map (some w1.heap.size),.func (.func F) #[] caps] (w1.alloc (.map #[] 0)) (YesNo Y N)))) :
  Calls Tryz.prog 178 #[.pointer (some ⟨B x,0,none⟩),.func (.func F) #[] caps] w (YesNo Y N):=by
 have hmm:=@run_makeMap Tryz.prog;have H:=Hd h;clear h;go_enter Tryz.func178,Tryz.ntmps178
 go_wp2_with fail
 refine H.o.mono ?_;rintro e1 w3 ⟨b,rfl,hy,hno⟩;have HY:=Hd hy;have HNO:=Hd hno;clear hy hno H;cases b
 ·have HK:=Hd (HNO.o rfl);clear HY HNO
  go_wp2_with fail
  refine HK.o.mono ?_;rintro e1 w4 ⟨b,rfl,hy,hno⟩;have HY:=Hd hy;have HNO:=Hd hno;clear hy hno HK;cases b
  ·have HK:=Hd (HNO.o rfl);clear HY HNO;go_wp2;go_ret;exact ⟨false,rfl,(fun h=>by cases h),fun _=>HK.o⟩
  ·have HK:=Hd (HY.o rfl);clear HY HNO;go_wp2;go_ret;exact ⟨true,rfl,fun _=>HK.o,(fun h=>by cases h)⟩
 ·have HK:=Hd (HY.o rfl);clear HY HNO;go_wp2;go_ret;exact ⟨true,rfl,fun _=>HK.o,(fun h=>by cases h)⟩
def Zaw (es:List Ent) (x:Nat):List Nat:=x :: vis es es.length [] (lkOf es x)
theorem Zhu {A:Nat->Prop} {B:Nat->Nat} {T mb:Nat} {es:List Ent} {w0:World} (hT:Tab A w0 T mb B es) (hS:Shape es) (F:Nat) (caps:Array Value)
  (he:∀ args w,(callFunc F args).run Tryz.prog w=.ok (.enter F args) w) (lo x:Nat) (hx:x<es.length) (J K:Nat->World->Prop) (w:World) (hsz:∀ k w',J k w'->lo<=w'.heap.size)
  (hJ:∀ k w',J k w'->Below w0.heap.size w0 w') (hJs:ZlW lo J) (hF:ZlY B F caps lo (Zaw es x) J K) (h0:J 0 w) :
  Calls Tryz.prog 178 #[.pointer (some ⟨B x,0,none⟩),.func (.func F) #[] caps] w (YesNo (fun w'=>∃ k,k<(Zaw es x).length/\K k w') (J (Zaw es x).length)):=by
 obtain ⟨e,hex⟩:∃ e,es[x]? = some e:=⟨_,Yaa hx⟩
 have hlk:lkOf es x=e.lk:=Zbl hex;refine Zkf B F caps x _ _ w he ?_;refine (hF 0 x w rfl h0).mono fun e1 w1 q=>q.1.mono' (fun h=>⟨0,Nat.succ_pos _,h⟩) (fun h1=>?_)
 have hm:Met (w1.alloc (.map #[] 0)) w1.heap.size []:=Met.new w1;have hl1:=hsz 1 w1 h1;unfold Zaw at hF ⊢;rw [hlk] at hF ⊢;refine (ZmR hT hS.len hS.lk F caps he lo w1.heap.size hl1 es.length x e [] (fun k=>J (k+1)) (fun k=>K (k+1)) _ hex (hS.deep x e hex) .nil (fun y hy=>by cases hy) (fun k w' h=>hJ _ w' h) (fun k a b h1 h2=>hJs _ a b h1 h2)
  (fun k y w' hy hj=>hF (k+1) y w' (by rw [List.getElem?_cons_succ];exact hy) hj) (hJs 1 _ _ h1 ((Yam _ w1).alloc _)) hm).mono fun e2 w2 q=>q.mono' (fun ⟨k,hk,h⟩=>⟨k+1,by rw [YaJ];omega,h⟩) (fun h=>?_)
 rw [YaJ];exact h.1
theorem Zke {A:Nat->Prop} {B:Nat->Nat} {T mb:Nat} {es:List Ent} {w0:World} (hT:Tab A w0 T mb B es) (hS:Shape es) (F:Nat) (caps:Array Value) (he:∀ args w,(callFunc F args).run Tryz.prog w=.ok (.enter F args) w)
  (x:Nat) (hx:x<es.length) (p:Nat->Bool) (w:World) (hw:Below w0.heap.size w0 w) (hF:∀ y w',y ∈ Zaw es x->Below w.heap.size w w'->Calls Tryz.prog F (#[entV B y]++caps) w' (Said (p y) w')) :
  Calls Tryz.prog 178 #[.pointer (some ⟨B x,0,none⟩),.func (.func F) #[] caps] w (Said ((Zaw es x).any p) w):=by
 refine (Zhu hT hS F caps he w.heap.size x hx (fun k w'=>Below w.heap.size w w'/\((Zaw es x).take k).any p=false) (fun _ w'=>Below w.heap.size w w'/\(Zaw es x).any p=true) w (fun k w' h=>h.1.size)
  (fun k w' h=>hw.trans (h.1.mono hw.size)) (fun k w1 w2 h ho=>⟨h.1.trans (Only.below ho h.1.size (fun i hi=>hi)),h.2⟩) (fun k y w' hy hj=>?_) ⟨Yab _ _,by simp⟩).mono fun e w' q=>?_
 ·refine (hF y w' (Yad hy) hj.1).mono fun e w'' ⟨h1,h2⟩=>?_
  have hb:=hj.1.trans (h2.mono hj.1.size);refine ⟨⟨p y,h1,fun hp=>⟨hb,YaN.2 ⟨y,Yad hy,hp⟩⟩,fun hp=>⟨hb,?_⟩⟩,Yaf h2⟩;rw [Zai p _ k y hy,hj.2,hp];rfl
 ·obtain ⟨b,h1,h2,h3⟩:=q;cases b with
  | true=>
   obtain ⟨_,_,h4,h5⟩:=h2 rfl;exact ⟨by rw [h5];exact h1,h4⟩
  | false=>
   obtain ⟨h4,h5⟩:=h3 rfl;rw [YaF] at h5;exact ⟨by rw [h5];exact h1,h4⟩
