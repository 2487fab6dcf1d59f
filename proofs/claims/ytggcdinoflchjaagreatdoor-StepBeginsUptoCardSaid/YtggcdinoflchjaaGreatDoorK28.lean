/- laws -/
import Derived.Test.YtggcdinoflchjaaGreatDoorK27
set_option maxRecDepth 100000
set_option maxHeartbeats 16000000
namespace Go.Proofs.YtggcdinoflchjaaGreatDoor
open Go.RowKit
def ZaJ (m:Mth):List UInt8:=[40]++(Lib.join m.params [44]++([41]++m.res))
def Mth.brief (m:Mth):Prop:=(Lib.join m.params [44]).length<=70368744177664/\m.res.length<=70368744177664/\m.params.length<=70368744177664
theorem ZqE (l:List (List UInt8)):(l.map S).map (·.data.toList)=l:=by
 rw [YbX]
 conv=>rhs;rw [←List.map_id l]
 exact Ycg (fun x _=>rfl)
theorem Zow {A:Nat->Prop} {w:World} {po:Option Addr} {pc:Nat} (l:List (List UInt8)) (hs:Src 1 StrR A w (.slice po l.length pc) l) (hl:(Lib.join l [44]).length<=70368744177664) (hn:l.length<=70368744177664) :
  Calls Tryz.prog 226 #[.slice po l.length pc,.string ⟨#[44]⟩] w fun e w'=>e=.returned (.string (S (Lib.join l [44])))/\Below w.heap.size w w':=by
 rcases hs with ⟨ao,cp0,he,rfl⟩|⟨b,o,cap,he,⟨_,hb,hc,_⟩,hcl⟩
 ·exact (strings_Join_none po pc ⟨#[44]⟩ w).mono fun e w' ⟨h1,h2⟩=>⟨h1,h2 ▸ Yab _ _⟩
 ·simp at he
  obtain ⟨rfl,rfl⟩:=he;have h:=strings_Join b o pc (l.map S) ⟨#[44]⟩ w (fun j x hx=>by
   rw [Yau,YaU] at hx;obtain ⟨y,hy,rfl⟩:=hx;obtain ⟨v,hv,_,hcv⟩:=hcl j y hy;obtain rfl:=hv;have q:=hcv 0 _ rfl;rw [YaG] at q;exact q) hb (by rw [Yaz];omega) (by rw [Yaz];exact hc) (by rw [ZqE];show (Lib.join l [44]).length<=_;omega)
  rw [ZqE,Yaz] at h;exact h
theorem Zd3 {A:Nat->Prop} (m:Mth) (v:Value) (w:World) (hv:MthR A w m v) (hb:m.brief) :
  Calls Tryz.prog 182 #[v] w (Zca (ZaJ m) w):=by
 obtain ⟨pv,cv,kv,rfl,hp,hcd,hkt⟩:=hv;obtain ⟨po,pc,rfl⟩:=hp.shape;obtain ⟨co,cc,rfl⟩:=hcd.shape;obtain ⟨ko,kc,rfl⟩:=hkt.shape;have hb0:Below w.heap.size w (w.alloc (.cells #[.string (S m.name),.slice po m.params.length pc,.string (S m.res),.bool m.abs,.int .i64 m.loc,.slice co m.code.length cc,.slice ko m.cats.length kc] 44)):=(Yab _ w).alloc (Yac _) _;have HB0:=Hd hb0;have HBX:=Hd (Box.new w #[.string (S m.name),.slice po m.params.length pc,.string (S m.res),.bool m.abs,.int .i64 m.loc,.slice co m.code.length cc,.slice ko m.cats.length kc] 44);have HJ:Hid (∀ W,Below (w.alloc (.cells #[.string (S m.name),.slice po m.params.length pc,.string (S m.res),.bool m.abs,.int .i64 m.loc,.slice co m.code.length cc,.slice ko m.cats.length kc] 44)).heap.size (w.alloc (.cells #[.string (S m.name),.slice po m.params.length pc,.string (S m.res),.bool m.abs,.int .i64 m.loc,.slice co m.code.length cc,.slice ko m.cats.length kc] 44)) W->Calls Tryz.prog 226 #[.slice po m.params.length pc,.string ⟨#[44]⟩] W fun e w'=>e=.returned (.string (S (Lib.join m.params [44])))/\Below W.heap.size W w'):=Hd (fun W hW=>Zow m.params (StrR.st.below (StrR.st.below hp hb0) hW) hb.1 hb.2.2);have e1:S (ZaJ m)=S [40]++S (Lib.join m.params [44])++S [41]++S m.res:=by unfold ZaJ;rw [Zck,Zck,Zck];congr 1;simp
 have hj:(S (Lib.join m.params [44])).size<=70368744177664:=by rw [Zay];exact hb.1
 have hr:(S m.res).size<=70368744177664:=by rw [Zay];exact hb.2.1
 clear hp hcd hkt hb0 hb;obtain ⟨R,hR⟩:∃ R,R=S (ZaJ m):=⟨_,rfl⟩
 unfold Zca;rw [←hR];rw [←hR] at e1;generalize S (Lib.join m.params [44])=uJ at HJ hj e1;have HE:=Hd e1;clear e1 hR;obtain ⟨name,params,res,ab,loc,code,cats⟩:=m;dsimp only at *;generalize S res=uR at HB0 HBX HJ HE hr ⊢;generalize params.length=n1 at *;generalize code.length=n2 at *;generalize cats.length=n3 at *;go_enter Tryz.func182,Tryz.ntmps182
 go_upto_region 1 with fail
 generalize w.alloc (.cells #[.string (S name),.slice po n1 pc,.string uR,.bool ab,.int .i64 loc,.slice co n2 cc,.slice ko n3 kc] 44)=W0 at HB0 HBX HJ ⊢;obtain ⟨B,hB⟩:∃ B,B=w.heap.size:=⟨_,rfl⟩
 rw [←hB] at HBX ⊢;clear hB;have HS:Hid (∀ W,Below W0.heap.size W0 W->W.cell? ⟨B,1,none⟩=some (.slice po n1 pc)/\W.cell? ⟨B,2,none⟩=some (.string uR)):=Hd (fun W hW=>⟨(HBX.o.below hW).cell 1 rfl,(HBX.o.below hW).cell 2 rfl⟩);obtain ⟨g0,g1⟩:=HS.o _ (Yab _ W0);have k1:¬ (9223372036854775807<1+uJ.size):=by omega
 have k2:¬ (9223372036854775807<1+uJ.size+1):=by omega
 have k3:¬ (9223372036854775807<1+uJ.size+1+uR.size):=by omega
 first
 | (go_region_held (fun W=>W.cell? ⟨B,1,none⟩=some (.slice po n1 pc)/\W.cell? ⟨B,2,none⟩=some (.string uR)) ((refine HS.o _ ?_;(repeat (first|(with_reducible exact Yab _ _)|(with_reducible (apply Zac;rotate_left;assumption))|(with_reducible refine Zab ?_)))))
   (first|((with_reducible refine (HJ.o _ ?_).mono ?_);(focus ((repeat (first|(with_reducible exact Yab _ _)|(with_reducible (apply Zac;rotate_left;assumption))|(with_reducible refine Zab ?_)));done));rintro e w1 ⟨rfl,b9⟩)))
 | fail
 have hbe:Below w.heap.size w w1:=HB0.o.trans (YbN (by (repeat (first|(with_reducible exact b9)|(with_reducible (apply Zac;rotate_left;assumption))|(with_reducible exact Yab _ _)|(with_reducible refine Zab ?_)))) HB0.o.size);go_wp2;go_ret;exact ⟨by rw [HE.o];rfl,hbe⟩
theorem ZmB (l:List (List UInt8)) (k:Nat) (x:List UInt8) (h:l[k]? = some x):Lib.join (l.take (k+1)) [44]=Lib.join (l.take k) [44]++((if k=0 then [] else [44])++x):=by
 cases l with
 | nil=>simp at h
 | cons y r=>
  cases k with
  | zero=>simp at h;subst h;simp [Lib.join_one,Lib.join_nil]
  | succ k=>
   have h':r[k]? = some x:=by simpa using h
   rw [List.take_succ_cons,List.take_succ_cons,Lib.join_cons,Lib.join_cons,Lib.joinTail_take_succ _ _ _ _ h',Yas (by omega)];simp
theorem ZeF (l:List (List UInt8)) (k:Nat):(Lib.join (l.take k) [44]).length<=(Lib.join l [44]).length:=by
 cases l with
 | nil=>simp [Lib.join_nil]
 | cons y r=>
  cases k with
  | zero=>simp [Lib.join_nil]
  | succ k=>
   rw [List.take_succ_cons,Lib.join_cons,Lib.join_cons,Yak,Yak];have:=Lib.joinTail_take_le [44] r k;omega
theorem Zft {A:Nat->Prop} (m:Mth) (v:Value) (w:World) (hv:MthR A w m v) (hb:m.brief) :
  Calls Tryz.prog 121 #[v] w (Zca (ZaJ m) w):=by
 obtain ⟨pv,cv,kv,rfl,hp,hcd,hkt⟩:=hv;obtain ⟨po,pc,rfl⟩:=hp.shape;obtain ⟨co,cc,rfl⟩:=hcd.shape;obtain ⟨ko,kc,rfl⟩:=hkt.shape;have hb0:Below w.heap.size w (w.alloc (.cells #[.string (S m.name),.slice po m.params.length pc,.string (S m.res),.bool m.abs,.int .i64 m.loc,.slice co m.code.length cc,.slice ko m.cats.length kc] 44)):=(Yab _ w).alloc (Yac _) _;have HB0:=Hd hb0;have HBX:=Hd (Box.new w #[.string (S m.name),.slice po m.params.length pc,.string (S m.res),.bool m.abs,.int .i64 m.loc,.slice co m.code.length cc,.slice ko m.cats.length kc] 44);have HC:=Hd (Src.elem (StrR.st.below hp hb0));have hn1:m.params.length<=70368744177664:=hb.2.2;have HJ:=Hd hb.1;have hr:(S m.res).size<=70368744177664:=by rw [Zay];exact hb.2.1
 have he:S (ZaJ m)=S ([40]++Lib.join m.params [44])++S [41]++S m.res:=by unfold ZaJ;rw [Zck,Zck];congr 1;simp
 obtain ⟨R,hR⟩:∃ R,R=S (ZaJ m):=⟨_,rfl⟩
 unfold Zca;rw [←hR];rw [←hR] at he;have HE:=Hd he;clear he hR hp hcd hkt hb0 hb;obtain ⟨n,hn⟩:∃ n,n=m.params.length:=⟨_,rfl⟩
 have HN:=Hd hn;simp only [←hn] at HB0 HBX HC hn1 ⊢;clear hn;obtain ⟨name,params,res,ab,loc,code,cats⟩:=m;dsimp only at *;generalize S res=uR at HB0 HBX HC HE hr ⊢;go_enter Tryz.func121,Tryz.ntmps121;go_wp2;generalize w.alloc (.cells #[.string (S name),.slice po n pc,.string uR,.bool ab,.int .i64 loc,.slice co code.length cc,.slice ko cats.length kc] 44)=W0 at HB0 HBX HC ⊢;obtain ⟨B,hB⟩:∃ B,B=w.heap.size:=⟨_,rfl⟩
 rw [←hB] at HBX ⊢;clear hB;have c1:=HBX.o.cell 1 rfl
 go_loop [3,4] (fun v3 v4=>∃ k:Nat,k<=n/\v4=.int .i64 k/\v3=.string (S ([40]++Lib.join (params.take k) [44]))) (fun _ v4=>n - (intOf v4).toNat)
 case atStart=>exact ⟨0,Yai _,rfl,rfl⟩
 case round=>
  obtain ⟨k,hk,rfl,rfl⟩:=hrel;by_cases hlt:k<n
  ·have hkl:k<params.length:=by have:=HN.o;omega
   obtain ⟨x,hx⟩:∃ x,params[k]? = some x:=⟨_,Yaa hkl⟩
   obtain ⟨b,o,v,rfl,hv,hsz,hcl⟩:=HC.o k x hx;obtain rfl:=hv;have d0:W0.cell? ⟨b,o+k,none⟩=some (.string (S x)):=by have q:=hcl 0 _ rfl;rw [YaG] at q;exact q
   have hjt:=ZmB params k x hx;have hl1:=ZeF params k;have hl2:=ZeF params (k+1);rw [hjt,Yak,Yak] at hl2;have hl0:=HJ.o;have hA:(S ([40]++Lib.join (params.take k) [44])).size<=70368744177665:=by rw [Zay,Yak];simp;omega
   have hX:(S x).size<=70368744177664:=by rw [Zay];omega
   have hk0:(0:Int)<=k:=by omega
   have hkn:(k:Int)<(n:Int):=by omega
   by_cases hz:k=0
   ·subst hz;have e1:S ([40]++Lib.join (params.take (0+1)) [44])=S ([40]++Lib.join (params.take 0) [44])++S x:=by rw [hjt,Zck];exact Ya5 S (by simp)
    have HE1:=Hd e1;clear hx hkl hcl hsz hjt hl1 hl2 hl0 e1;generalize S ([40]++Lib.join (params.take 0) [44])=uA at HE1 hA ⊢;generalize S x=uX at HE1 hX d0;rw [YbY] at d0;go_wp2
    go_round
    case rel=>exact ⟨0+1,by omega,by go_num,by rw [HE1.o]⟩
    case measure=>simp [intOf];omega
   ·have hkp:(0:Int)<(k:Int):=by omega
    have e1:S ([40]++Lib.join (params.take (k+1)) [44])=S ([40]++Lib.join (params.take k) [44])++S [44]++S x:=by rw [hjt,Zck,Zck,Yas hz];exact Ya5 S (by simp)
    have HE1:=Hd e1;clear hx hkl hcl hsz hjt hl1 hl2 hl0 e1 hz;generalize S ([40]++Lib.join (params.take k) [44])=uA at HE1 hA ⊢;generalize S x=uX at HE1 hX d0;go_wp2
    go_round
    case rel=>exact ⟨k+1,by omega,by go_num,by rw [HE1.o];rfl⟩
    case measure=>simp [intOf];omega
  ·obtain rfl:n=k:=by omega
   rw [HN.o,Yaw (Yac _)];have c2:=HBX.o.cell 2 rfl;have hA:(S ([40]++Lib.join params [44])).size<=70368744177665:=by have:=HJ.o;rw [Zay,Yak];simp;omega
   have hkn:¬ ((n:Int)<(n:Int)):=by omega
   generalize S ([40]++Lib.join params [44])=uA at HE hA ⊢;rw [←HN.o];go_wp2;go_ret;exact ⟨by rw [HE.o];rfl,HB0.o⟩
end Go.Proofs.YtggcdinoflchjaaGreatDoor
namespace Go.Proofs.YtggcdinoflchjaaGreatDoor
theorem Zqc (l:List (List UInt8)) (n:Nat) (h:∀ x ∈ l,x.length<=n):(Lib.joinTail [44] l).length<=l.length * (n+1):=by
 induction l with
 | nil=>simp [Lib.joinTail]
 | cons x l ih=>
  have h1:=h x Yal;have h2:=ih (fun y hy=>h y (Yap _ hy));have e:Lib.joinTail [44] (x :: l)=44 :: (x++Lib.joinTail [44] l):=by simp [Lib.joinTail]
  rw [e,YaI,Yak,YaI,Nat.add_mul];omega
theorem Mth.Good.brief {m:Mth} (h:m.Good):m.brief:=by
 have h1:=h.nums.1;have h2:=h.res_len;have h3:∀ x ∈ m.params,x.length<=38:=fun x hx=>Zdi (h.params x hx)
 have hj:(Lib.join m.params [44]).length<=2000:=by
  cases hp:m.params with
  | nil=>rw [Lib.join_nil];simp
  | cons x r=>
   rw [hp] at h1 h3;have a:=h3 x Yal;have b:=Zqc r 38 (fun y hy=>h3 y (Yap _ hy));rw [YaI] at h1;rw [Lib.join_cons,Yak];omega
 exact ⟨by omega,by omega,by omega⟩
end Go.Proofs.YtggcdinoflchjaaGreatDoor
namespace Go.Proofs.YtggcdinoflchjaaGreatDoor
open Go.RowKit
theorem Zng:∀ k,k<42->(ZaK k).length<=6:=by decide
theorem Mth.Good.small {m:Mth} (h:m.Good):m.Small:=by
 have h1:=Zgy h.name;have h2:=h.res_len;have h3:=h.nums;have h0:m.abs=true->m.code.length=0/\m.cats.length=0:=fun ha=>by
  have:=h.body;unfold Mth.body at this;rw [ha] at this;simp only [if_true,Yar,YaO] at this;exact this.2
 refine ⟨by omega,by omega,by omega,by omega,by omega,fun x hx=>?_,fun x hx=>?_,fun x hx=>?_⟩
 ·have:=Zdi (h.params x hx);omega
 ·cases ha:m.abs with
  | true=>rw [YaY.1 (h0 ha).1] at hx;cases hx
  | false=>
   obtain ⟨_,g2,_,_⟩:=h.real ha;obtain ⟨k1,_,k3⟩:=ZpN (g2 x hx) (h.held.2.1 x hx);have hi:=(Zgu k1).1;have hop:=(Zgu k1).2.1;have:=Zng _ hi;rw [hop] at this;exact ⟨by omega,by omega⟩
 ·cases ha:m.abs with
  | true=>rw [YaY.1 (h0 ha).2] at hx;cases hx
  | false=>
   obtain ⟨_,_,g3,_⟩:=h.real ha;have:=Zc7 (Zn8 (g3 x hx) h3.2.2.1).2.2.2;omega
theorem Cls.Good.small {c:Cls} (h:c.Good):c.Small:=by
 have h1:=Zc7 h.name;have h2:=h.nums;have h3:=Zc7 h.above.1;refine ⟨by omega,by omega,by omega,by omega,by omega,fun x hx=>?_,fun x hx=>?_,fun x hx=>(h.mths x hx).small⟩
 ·have:=Zc7 (h.above.2 x hx);omega
 ·have:=h.flds x hx;unfold Fld.ok at this;rw [Yar] at this;have h4:=Zgy this.1;have h5:=Zdi this.2;omega
theorem Cls.Good.apart {c:Cls} (h:c.Good):c.sup ≠ c.name/\c.name ∉ c.like:=by
 have h1:=h.parts.2;unfold Cls.fine Cls.names at h1;simp only [Yar,Ybg,YaT,beq_iff_eq] at h1;have h2:=h1.1.2.2.1;exact ⟨fun e=>h2 c.sup Yal e,fun e=>h2 c.name (Yap _ e) rfl⟩
def rawE (c:Cls):Ent:=⟨c,none,[]⟩
def Zaw (cs:List Cls) (k:Nat):List Ent:=startL++(cs.take k).map rawE
def Zat (cs:List Cls):List Ent:=startL++cs.map rawE
def Zc1 (cs:List Cls) (c:Cls):Ent:=⟨c,upE (Zat cs) c.sup,Zbw (Zat cs) c.like⟩
def Za9 (cs:List Cls) (k:Nat):List Ent:=startL++((cs.take k).map (Zc1 cs)++(cs.drop k).map rawE)
def newT (cs:List Cls):List Ent:=startL++cs.map (Zc1 cs)
theorem Zd6 (cs:List Cls):Zaw cs 0=startL:=by simp [Zaw]
theorem ZcS (cs:List Cls):Zaw cs cs.length=Zat cs:=by unfold Zaw Zat;rw [YaJ]
theorem ZhD (cs:List Cls):Za9 cs 0=Zat cs:=by simp [Za9,Zat]
theorem Zfe (cs:List Cls):Za9 cs cs.length=newT cs:=by unfold Za9 newT;rw [YaJ,List.drop_length];simp
theorem Zhd (cs:List Cls) {k:Nat} (h:k<=cs.length):(Zaw cs k).length=8+k:=by unfold Zaw;rw [Yak,ZaG,Yaz,Yay,Ybe h]
theorem ZaR (cs:List Cls):(newT cs).length=8+cs.length:=by unfold newT;rw [Yak,ZaG,Yaz]
theorem ZdU (cs:List Cls) {k:Nat} (h:k<=cs.length):(Za9 cs k).length=8+cs.length:=by
 unfold Za9;rw [Yak,ZaG,Yak,Yaz,Yaz,Yay,Ybn,Ybe h];omega
theorem Zd5 {cs:List Cls} {k:Nat} {c:Cls} (h:cs[k]? = some c):Zaw cs (k+1)=Zaw cs k++[rawE c]:=by
 unfold Zaw;rw [YaL,h,Ya4,YaW];rfl
theorem ZiJ {cs:List Cls} {k:Nat} {c:Cls} (h:cs[k]? = some c):(Za9 cs k)[8+k]? = some (rawE c):=by
 have hk:=(Yag.1 h).1;unfold Za9;have h1:((cs.take k).map (Zc1 cs)).length=k:=by rw [Yaz,Yay,Ybe (Nat.le_of_lt hk)]
 rw [YaH (by rw [ZaG];omega),ZaG,YaH (by rw [h1];omega),h1,show 8+k - 8 - k=0 by omega,Yau,YbH,YbY,h];rfl
theorem ZhC {cs:List Cls} {k:Nat} {c:Cls} (h:cs[k]? = some c):(Za9 cs k).set (8+k) (Zc1 cs c)=Za9 cs (k+1):=by
 have hk:=(Yag.1 h).1;have h1:((cs.take k).map (Zc1 cs)).length=k:=by rw [Yaz,Yay,Ybe (Nat.le_of_lt hk)]
 unfold Za9;rw [Yct _ _ (by rw [ZaG];omega),ZaG,Yct _ _ (by rw [h1];omega),h1,show 8+k - 8 - k=0 by omega];have h2:cs.drop k=c :: cs.drop (k+1):=by
  rw [YbK hk];rw [(Yag.1 h).2]
 rw [h2,YbJ,Ybq,YaL,h,Ya4];simp
theorem Zbo {es es':List Ent} (h:es.map Ent.cls=es'.map Ent.cls) (n:List UInt8):Zad es n=Zad es' n:=by
 have e:∀ es:List Ent,Zad es n=(es.map Ent.cls).findIdx? (fun c=>c.name == n):=fun es=>by unfold Zad;rw [List.findIdx?_map];rfl
 rw [e,e,h]
theorem ZiB {es es':List Ent} (h:es.map Ent.cls=es'.map Ent.cls) (i:Nat):(es[i]?).map Ent.cls=(es'[i]?).map Ent.cls:=by
 rw [←Yau,←Yau,h]
theorem Zeb {es es':List Ent} (h:es.map Ent.cls=es'.map Ent.cls) (i:Nat):Zcn es i=Zcn es' i:=by
 have h1:=ZiB h i;unfold Zcn;cases h2:es[i]? <;> cases h3:es'[i]? <;> rw [h2,h3] at h1 <;> simp at h1
 all_goals first|rfl|(dsimp only;rw [h1])
theorem Zl9 {es es':List Ent} (h:es.map Ent.cls=es'.map Ent.cls) (i:Nat):Ze2 es i=Ze2 es' i:=by
 have h1:=ZiB h i;unfold Ze2;cases h2:es[i]? <;> cases h3:es'[i]? <;> rw [h2,h3] at h1 <;> simp at h1
 all_goals first|rfl|(dsimp only;rw [h1])
theorem ZnO {es es':List Ent} (h:es.map Ent.cls=es'.map Ent.cls) (n:List UInt8):upE es n=upE es' n:=by
 unfold upE;rw [Zbo h];cases Zad es' n with
 | none=>rfl
 | some j=>dsimp only;rw [Zeb h,Zl9 h]
theorem Zhy {es es':List Ent} (h:es.map Ent.cls=es'.map Ent.cls) (n:List UInt8):Zce es n=Zce es' n:=by
 unfold Zce;rw [Zbo h];cases Zad es' n with
 | none=>rfl
 | some j=>dsimp only;rw [Zeb h]
theorem Zkn {es es':List Ent} (h:es.map Ent.cls=es'.map Ent.cls) (l:List (List UInt8)):Zbw es l=Zbw es' l:=by
 unfold Zbw;exact Ycg (fun n _=>by rw [Zhy h])
theorem Zfb {es es':List Ent} (h:es.map Ent.cls=es'.map Ent.cls) (l:List (List UInt8)):ZaH es l=ZaH es' l:=by
 unfold ZaH
 congr 1
 funext n
 rw [Zhy h]
theorem Zff (cs:List Cls) (k:Nat):(Za9 cs k).map Ent.cls=(Zat cs).map Ent.cls:=by
 unfold Za9 Zat;rw [Ya4,Ya4,Ya4,YbX,YbX,YbX]
 congr 1
 conv=>rhs;rw [←Ya1 k cs,Ya4]
 rfl
theorem Zb8 (cs:List Cls):(newT cs).map Ent.cls=(Zat cs).map Ent.cls:=by rw [←Zfe];exact Zff cs _
def Uniq (es:List Ent):Prop:=∀ (i:Nat) (e:Ent),es[i]? = some e->Zad es e.cls.name=some i
theorem Zi8:Uniq startL:=fun i e h=>by
 match i,h with
 | 0,h=>obtain rfl:=Yae h;decide
 | 1,h=>obtain rfl:=Yae h;decide
 | 2,h=>obtain rfl:=Yae h;decide
 | 3,h=>obtain rfl:=Yae h;decide
 | 4,h=>obtain rfl:=Yae h;decide
 | 5,h=>obtain rfl:=Yae h;decide
 | 6,h=>obtain rfl:=Yae h;decide
 | 7,h=>obtain rfl:=Yae h;decide
 | k+8,h=>rw [YaN (by rw [ZaG];omega)] at h;cases h
theorem Uniq.snoc {es:List Ent} (h:Uniq es) {e:Ent} (hn:Zad es e.cls.name=none):Uniq (es++[e]):=fun i x hx=>by
 rw [Zdh];rcases YaB i es.length with h1|h1
 ·rw [YaP h1] at hx;rw [h i x hx]
 ·have h2:i=es.length:=by
   have:=(Yag.1 hx).1;rw [Yak] at this;simp at this
   omega
  subst h2;rw [YaH (Yac _),Yca] at hx;obtain rfl:=Yae hx;rw [hn];simp
theorem Zcm {cs:List Cls} (hn:∀ k c,cs[k]? = some c->Zad (Zaw cs k) c.name=none):∀ k,k<=cs.length->Uniq (Zaw cs k)
 | 0,_=>by rw [Zd6];exact Zi8
 | k+1,hk=>by
  have hc:cs[k]? = some cs[k]:=Yaa (by omega);rw [Zd5 hc];exact (Zcm hn k (by omega)).snoc (hn k _ hc)
theorem Uniq.cls {es es':List Ent} (h:es.map Ent.cls=es'.map Ent.cls) (u:Uniq es'):Uniq es:=fun i e he=>by
 rw [Zbo h];have h1:=ZiB h i;rw [he] at h1;cases h2:es'[i]? with
 | none=>rw [h2] at h1;cases h1
 | some e'=>
  rw [h2] at h1;rw [Yae (show some e.cls=some e'.cls from h1)];exact u i e' h2
structure Lined (cs:List Cls):Prop where
 len:cs.length<=1000
 good:∀ c ∈ cs,c.Good
 names:∀ k c,cs[k]? = some c->Zad (Zaw cs k) c.name=none
 ups:∀ c ∈ cs,(upE (Zat cs) c.sup).isSome=true
 likes:∀ c ∈ cs,ZaH (Zat cs) c.like=true
theorem Lined.uniq {cs:List Cls} (h:Lined cs):Uniq (newT cs):=by
 refine Uniq.cls (Zb8 cs) ?_;rw [←ZcS];exact Zcm h.names _ (Yac _)
theorem Zbb {cs:List Cls} {i:Nat} {e:Ent} (h:(newT cs)[i]? = some e):(i<8/\startL[i]? = some e)\/(8<=i/\∃ c,cs[i - 8]? = some c/\e=Zc1 cs c):=by
 unfold newT at h;rcases YaB i 8 with h1|h1
 ·rw [YaP (by rw [ZaG];exact h1)] at h;exact .inl ⟨h1,h⟩
 ·rw [YaH (by rw [ZaG];exact h1),ZaG,Yau] at h;obtain ⟨c,h2,h3⟩:=YaU.1 h;exact .inr ⟨h1,c,h2,h3.symm⟩
theorem Zg1 (cs:List Cls):(Zat cs).length=8+cs.length:=by unfold Zat;rw [Yak,ZaG,Yaz]
theorem Zh0:∀ i,i<8->∀ d ∈ parE startL i,d<2/\d ≠ i:=by decide
theorem Zcv {cs:List Cls} {i:Nat} (h:i<8):parE (newT cs) i=parE startL i:=by
 unfold parE newT;rw [YaP (by rw [ZaG];exact h)]
theorem Lined.par {cs:List Cls} (h:Lined cs):Zc3 (newT cs):=fun c d hd=>by
 rw [ZaR];cases he:(newT cs)[c]? with
 | none=>unfold parE at hd;rw [he] at hd;cases hd
 | some e=>
  rcases Zbb he with ⟨h1,h2⟩|⟨h1,x,h2,rfl⟩
  ·rw [Zcv h1] at hd;have:=(Zh0 c h1 d hd).1;omega
  ·rw [ZcK he] at hd;unfold Ent.par Zc1 at hd;have hx:=Yaf h2;rcases Yao.1 hd with h3|h3
   ·have h4:upE (Zat cs) x.sup=some d:=by simpa using h3
    have:=(Zh3 h4).2;rw [Zg1] at this;exact this
   ·have:=Zhz (h.likes x hx) d h3;rw [Zg1] at this;exact this
theorem Zds {es:List Ent} {n:List UInt8} {i:Nat} (h:Zad es n=some i):∃ e,es[i]? = some e/\e.cls.name=n:=by
 unfold Zad at h;obtain ⟨h1,h2,_⟩:=YaV.1 h;exact ⟨es[i],Yaa h1,by simpa using h2⟩
theorem ZcG {es:List Ent} {n:List UInt8} {j:Nat} (h:Zce es n=some j):Zad es n=some j/\Zcn es j=true:=by
 unfold Zce at h;cases hp:Zad es n with
 | none=>rw [hp] at h;cases h
 | some i=>
  rw [hp] at h;dsimp only at h;split at h
  ·rename_i hi
   obtain rfl:=Yae h;exact ⟨rfl,hi⟩
  ·cases h
theorem Lined.self {cs:List Cls} (h:Lined cs) (c:Nat):c ∉ parE (newT cs) c:=fun hd=>by
 cases he:(newT cs)[c]? with
 | none=>unfold parE at hd;rw [he] at hd;cases hd
 | some e=>
  rcases Zbb he with ⟨h1,h2⟩|⟨h1,x,h2,rfl⟩
  ·rw [Zcv h1] at hd;exact (Zh0 c h1 c hd).2 rfl
  ·rw [ZcK he] at hd;unfold Ent.par Zc1 at hd;have hx:=Yaf h2;have hap:=(h.good x hx).apart;have key:∀ n,Zad (Zat cs) n=some c->x.name=n:=fun n hp=>by
    rw [←Zbo (Zb8 cs)] at hp;obtain ⟨e2,h5,h6⟩:=Zds hp;rw [he] at h5;obtain rfl:=Yae h5;exact h6
   rcases Yao.1 hd with h3|h3
   ·have h4:upE (Zat cs) x.sup=some c:=by simpa using h3
    exact hap.1 (key _ (Zh3 h4).1).symm
   ·obtain ⟨n,hn1,hn2⟩:=Ya6.1 (show c ∈ x.like.map fun n=>(Zce (Zat cs) n).getD 0 from h3);have h5:=YaE.1 (h.likes x hx) n hn1;obtain ⟨j,hj⟩:=YaM.1 h5;rw [hj] at hn2;obtain rfl:j=c:=hn2;exact hap.2 ((key _ (ZcG hj).1) ▸ hn1)
theorem Zi9:∀ e ∈ startL,e.cls.name.length<=32/\e.cls.flds.length<=32/\e.cls.mths.length<=32/\e.lk.length<=32:=by
 have h:startL.all (fun e=>decide (e.cls.name.length<=32/\e.cls.flds.length<=32/\e.cls.mths.length<=32/\e.lk.length<=32))=true:=by decide
 exact fun e he=>of_decide_eq_true (YaE.1 h e he)
theorem Lined.small {cs:List Cls} (h:Lined cs) (i:Nat) (e:Ent) (he:(newT cs)[i]? = some e):e.cls.name.length<=32/\e.cls.flds.length<=32/\e.cls.mths.length<=32/\e.lk.length<=32:=by
 rcases Zbb he with ⟨h1,h2⟩|⟨h1,x,h2,rfl⟩
 ·exact Zi9 e (Yaf h2)
 ·have hg:=h.good x (Yaf h2);have h3:=Zc7 hg.name;have h4:=hg.nums;refine ⟨h3,h4.2.1,h4.2.2,?_⟩;show (Zbw (Zat cs) x.like).length<=32
  unfold Zbw;rw [Yaz];exact h4.1
theorem Lined.shape {cs:List Cls} (h:Lined cs) (ha:Acyc (newT cs)):Shape (newT cs):=
 ha.shape h.par (by rw [ZaR];have:=h.len;omega) (fun i e he=>by have:=(h.small i e he).2.2.2;omega) (fun i e he=>(h.small i e he).2.1) (fun i e he=>(h.small i e he).1)
theorem ZjN (B:Nat->Nat) (F:Nat) (caps:Array Value) (x:Nat) (Y N:World->Prop) (w:World) (he:∀ args w,(callFunc F args).run Tryz.prog w=.ok (.enter F args) w)
  (h:Calls Tryz.prog F (#[entV B x]++caps) w (YesNo Y (fun w1=>
   Calls Tryz.prog 225 #[.pointer (some ⟨B x,0,none⟩),.map (some w1.heap.size),.func (.func F) #[] caps] (w1.alloc (.map #[] 0)) (YesNo Y N)))) :
  Calls Tryz.prog 178 #[.pointer (some ⟨B x,0,none⟩),.func (.func F) #[] caps] w (YesNo Y N):=by
 have hmm:=@run_makeMap Tryz.prog;have H:=Hd h;clear h;go_enter Tryz.func178,Tryz.ntmps178
 go_wp2_with fail
 refine H.o.mono ?_;rintro e1 w3 ⟨b,rfl,hy,hno⟩;have HY:=Hd hy;have HNO:=Hd hno;clear hy hno H;cases b
 ·have HK:=Hd (HNO.o rfl);clear HY HNO
  go_wp2_with fail
  refine HK.o.mono ?_;rintro e1 w4 ⟨b,rfl,hy,hno⟩;have HY:=Hd hy;have HNO:=Hd hno;clear hy hno HK;cases b
  ·have HK:=Hd (HNO.o rfl);clear HY HNO;go_wp2;go_ret;exact ⟨false,rfl,(fun h=>by cases h),fun _=>HK.o⟩
  ·have HK:=Hd (HY.o rfl);clear HY HNO;go_wp2;go_ret;exact ⟨true,rfl,fun _=>HK.o,(fun h=>by cases h)⟩
 ·have HK:=Hd (HY.o rfl);clear HY HNO;go_wp2;go_ret;exact ⟨true,rfl,fun _=>HK.o,(fun h=>by cases h)⟩
def Zau (es:List Ent) (x:Nat):List Nat:=x :: vis es es.length [] (lkOf es x)
theorem Zg0 {A:Nat->Prop} {B:Nat->Nat} {T mb:Nat} {es:List Ent} {w0:World} (hT:Tab A w0 T mb B es) (hS:Shape es) (F:Nat) (caps:Array Value)
  (he:∀ args w,(callFunc F args).run Tryz.prog w=.ok (.enter F args) w) (lo x:Nat) (hx:x<es.length) (J K:Nat->World->Prop) (w:World) (hsz:∀ k w',J k w'->lo<=w'.heap.size)
  (hJ:∀ k w',J k w'->Below w0.heap.size w0 w') (hJs:Zlt lo J) (hF:Zlv B F caps lo (Zau es x) J K) (h0:J 0 w) :
  Calls Tryz.prog 178 #[.pointer (some ⟨B x,0,none⟩),.func (.func F) #[] caps] w (YesNo (fun w'=>∃ k,k<(Zau es x).length/\K k w') (J (Zau es x).length)):=by
 obtain ⟨e,hex⟩:∃ e,es[x]? = some e:=⟨_,Yaa hx⟩
 have hlk:lkOf es x=e.lk:=Zba hex;refine ZjN B F caps x _ _ w he ?_;refine (hF 0 x w rfl h0).mono fun e1 w1 q=>q.1.mono' (fun h=>⟨0,Nat.succ_pos _,h⟩) (fun h1=>?_)
 have hm:Met (w1.alloc (.map #[] 0)) w1.heap.size []:=Met.new w1;have hl1:=hsz 1 w1 h1;unfold Zau at hF ⊢;rw [hlk] at hF ⊢;refine (Zmk hT hS.len hS.lk F caps he lo w1.heap.size hl1 es.length x e [] (fun k=>J (k+1)) (fun k=>K (k+1)) _ hex (hS.deep x e hex) .nil (fun y hy=>by cases hy) (fun k w' h=>hJ _ w' h) (fun k a b h1 h2=>hJs _ a b h1 h2)
  (fun k y w' hy hj=>hF (k+1) y w' (by rw [Yb0];exact hy) hj) (hJs 1 _ _ h1 ((Yan _ w1).alloc _)) hm).mono fun e2 w2 q=>q.mono' (fun ⟨k,hk,h⟩=>⟨k+1,by rw [YaI];omega,h⟩) (fun h=>?_)
 rw [YaI];exact h.1
theorem ZjM {A:Nat->Prop} {B:Nat->Nat} {T mb:Nat} {es:List Ent} {w0:World} (hT:Tab A w0 T mb B es) (hS:Shape es) (F:Nat) (caps:Array Value) (he:∀ args w,(callFunc F args).run Tryz.prog w=.ok (.enter F args) w)
  (x:Nat) (hx:x<es.length) (p:Nat->Bool) (w:World) (hw:Below w0.heap.size w0 w) (hF:∀ y w',y ∈ Zau es x->Below w.heap.size w w'->Calls Tryz.prog F (#[entV B y]++caps) w' (Said (p y) w')) :
  Calls Tryz.prog 178 #[.pointer (some ⟨B x,0,none⟩),.func (.func F) #[] caps] w (Said ((Zau es x).any p) w):=by
 refine (Zg0 hT hS F caps he w.heap.size x hx (fun k w'=>Below w.heap.size w w'/\((Zau es x).take k).any p=false) (fun _ w'=>Below w.heap.size w w'/\(Zau es x).any p=true) w (fun k w' h=>h.1.size)
  (fun k w' h=>hw.trans (h.1.mono hw.size)) (fun k w1 w2 h ho=>⟨h.1.trans (Only.below ho h.1.size (fun i hi=>hi)),h.2⟩) (fun k y w' hy hj=>?_) ⟨Yab _ _,by simp⟩).mono fun e w' q=>?_
 ·refine (hF y w' (Yaf hy) hj.1).mono fun e w'' ⟨h1,h2⟩=>?_
  have hb:=hj.1.trans (h2.mono hj.1.size);refine ⟨⟨p y,h1,fun hp=>⟨hb,YaQ.2 ⟨y,Yaf hy,hp⟩⟩,fun hp=>⟨hb,?_⟩⟩,Yad h2⟩;rw [Zah p _ k y hy,hj.2,hp];rfl
 ·obtain ⟨b,h1,h2,h3⟩:=q;cases b with
  | true=>
   obtain ⟨_,_,h4,h5⟩:=h2 rfl;exact ⟨by rw [h5];exact h1,h4⟩
  | false=>
   obtain ⟨h4,h5⟩:=h3 rfl;rw [YaJ] at h5;exact ⟨by rw [h5];exact h1,h4⟩
