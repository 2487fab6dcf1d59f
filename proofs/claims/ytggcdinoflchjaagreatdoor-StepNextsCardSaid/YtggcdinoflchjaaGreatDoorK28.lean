/- laws -/
import Derived.Test.YtggcdinoflchjaaGreatDoorK27
set_option maxRecDepth 100000
set_option maxHeartbeats 16000000
namespace Go.Proofs.YtggcdinoflchjaaGreatDoor
open Go.RowKit
def ZaH (m:Mth):List UInt8:=[40]++(Lib.join m.params [44]++([41]++m.res))
def Mth.brief (m:Mth):Prop:=(Lib.join m.params [44]).length<=70368744177664/\m.res.length<=70368744177664/\m.params.length<=70368744177664
theorem ZqA (l:List (List UInt8)):(l.map S).map (·.data.toList)=l:=by
 rw [List.map_map]
 conv=>rhs;rw [←List.map_id l]
 exact List.map_congr_left (fun x _=>rfl)
theorem Zov {A:Nat->Prop} {w:World} {po:Option Addr} {pc:Nat} (l:List (List UInt8)) (hs:Src 1 StrR A w (.slice po l.length pc) l) (hl:(Lib.join l [44]).length<=70368744177664) (hn:l.length<=70368744177664) :
  Calls Tryz.prog 226 #[.slice po l.length pc,.string ⟨#[44]⟩] w fun e w'=>e=.returned (.string (S (Lib.join l [44])))/\Below w.heap.size w w':=by
 rcases hs with ⟨ao,cp0,he,rfl⟩|⟨b,o,cap,he,⟨_,hb,hc,_⟩,hcl⟩
 ·exact (strings_Join_none po pc ⟨#[44]⟩ w).mono fun e w' ⟨h1,h2⟩=>⟨h1,h2 ▸ Below.refl _ _⟩
 ·simp at he
  obtain ⟨rfl,rfl⟩:=he;have h:=strings_Join b o pc (l.map S) ⟨#[44]⟩ w (fun j x hx=>by
   rw [List.getElem?_map,Option.map_eq_some_iff] at hx;obtain ⟨y,hy,rfl⟩:=hx;obtain ⟨v,hv,_,hcv⟩:=hcl j y hy;obtain rfl:=hv;have q:=hcv 0 _ rfl;rw [Nat.mul_one] at q;exact q) hb (by rw [List.length_map];omega) (by rw [List.length_map];exact hc) (by rw [ZqA];show (Lib.join l [44]).length<=_;omega)
  rw [ZqA,List.length_map] at h;exact h
theorem Zd1 {A:Nat->Prop} (m:Mth) (v:Value) (w:World) (hv:MthR A w m v) (hb:m.brief) :
  Calls Tryz.prog 182 #[v] w (Zca (ZaH m) w):=by
 obtain ⟨pv,cv,kv,rfl,hp,hcd,hkt⟩:=hv;obtain ⟨po,pc,rfl⟩:=hp.shape;obtain ⟨co,cc,rfl⟩:=hcd.shape;obtain ⟨ko,kc,rfl⟩:=hkt.shape;have hb0:Below w.heap.size w (w.alloc (.cells #[.string (S m.name),.slice po m.params.length pc,.string (S m.res),.bool m.abs,.int .i64 m.loc,.slice co m.code.length cc,.slice ko m.cats.length kc] 44)):=(Below.refl _ w).alloc (Nat.le_refl _) _;have HB0:=Hd hb0;have HBX:=Hd (Box.new w #[.string (S m.name),.slice po m.params.length pc,.string (S m.res),.bool m.abs,.int .i64 m.loc,.slice co m.code.length cc,.slice ko m.cats.length kc] 44);have HJ:Hid (∀ W,Below (w.alloc (.cells #[.string (S m.name),.slice po m.params.length pc,.string (S m.res),.bool m.abs,.int .i64 m.loc,.slice co m.code.length cc,.slice ko m.cats.length kc] 44)).heap.size (w.alloc (.cells #[.string (S m.name),.slice po m.params.length pc,.string (S m.res),.bool m.abs,.int .i64 m.loc,.slice co m.code.length cc,.slice ko m.cats.length kc] 44)) W->Calls Tryz.prog 226 #[.slice po m.params.length pc,.string ⟨#[44]⟩] W fun e w'=>e=.returned (.string (S (Lib.join m.params [44])))/\Below W.heap.size W w'):=Hd (fun W hW=>Zov m.params (StrR.st.below (StrR.st.below hp hb0) hW) hb.1 hb.2.2);have e1:S (ZaH m)=S [40]++S (Lib.join m.params [44])++S [41]++S m.res:=by unfold ZaH;rw [Zci,Zci,Zci];congr 1;simp
 have hj:(S (Lib.join m.params [44])).size<=70368744177664:=by rw [Zaz];exact hb.1
 have hr:(S m.res).size<=70368744177664:=by rw [Zaz];exact hb.2.1
 clear hp hcd hkt hb0 hb;obtain ⟨R,hR⟩:∃ R,R=S (ZaH m):=⟨_,rfl⟩
 unfold Zca;rw [←hR];rw [←hR] at e1;generalize S (Lib.join m.params [44])=uJ at HJ hj e1;have HE:=Hd e1;clear e1 hR;obtain ⟨name,params,res,ab,loc,code,cats⟩:=m;dsimp only at *;generalize S res=uR at HB0 HBX HJ HE hr ⊢;generalize params.length=n1 at *;generalize code.length=n2 at *;generalize cats.length=n3 at *;go_enter Tryz.func182,Tryz.ntmps182
 go_upto_region 1 with fail
 generalize w.alloc (.cells #[.string (S name),.slice po n1 pc,.string uR,.bool ab,.int .i64 loc,.slice co n2 cc,.slice ko n3 kc] 44)=W0 at HB0 HBX HJ ⊢;obtain ⟨B,hB⟩:∃ B,B=w.heap.size:=⟨_,rfl⟩
 rw [←hB] at HBX ⊢;clear hB;have HS:Hid (∀ W,Below W0.heap.size W0 W->W.cell? ⟨B,1,none⟩=some (.slice po n1 pc)/\W.cell? ⟨B,2,none⟩=some (.string uR)):=Hd (fun W hW=>⟨(HBX.out.below hW).cell 1 rfl,(HBX.out.below hW).cell 2 rfl⟩);obtain ⟨g0,g1⟩:=HS.out _ (Below.refl _ W0);have k1:¬ (9223372036854775807<1+uJ.size):=by omega
 have k2:¬ (9223372036854775807<1+uJ.size+1):=by omega
 have k3:¬ (9223372036854775807<1+uJ.size+1+uR.size):=by omega
 first
 | (go_region_held (fun W=>W.cell? ⟨B,1,none⟩=some (.slice po n1 pc)/\W.cell? ⟨B,2,none⟩=some (.string uR)) ((refine HS.out _ ?_;(repeat (first|(with_reducible exact Below.refl _ _)|(with_reducible (apply Zac;rotate_left;assumption))|(with_reducible refine Zab ?_)))))
   (first|((with_reducible refine (HJ.out _ ?_).mono ?_);(focus ((repeat (first|(with_reducible exact Below.refl _ _)|(with_reducible (apply Zac;rotate_left;assumption))|(with_reducible refine Zab ?_)));done));rintro e w1 ⟨rfl,b9⟩)))
 | fail
 have hbe:Below w.heap.size w w1:=HB0.out.trans (Below.mono (by (repeat (first|(with_reducible exact b9)|(with_reducible (apply Zac;rotate_left;assumption))|(with_reducible exact Below.refl _ _)|(with_reducible refine Zab ?_)))) HB0.out.size);go_wp2;go_ret;exact ⟨by rw [HE.out];rfl,hbe⟩
theorem ZmA (l:List (List UInt8)) (k:Nat) (x:List UInt8) (h:l[k]? = some x):Lib.join (l.take (k+1)) [44]=Lib.join (l.take k) [44]++((if k=0 then [] else [44])++x):=by
 cases l with
 | nil=>simp at h
 | cons y r=>
  cases k with
  | zero=>simp at h;subst h;simp [Lib.join_one,Lib.join_nil]
  | succ k=>
   have h':r[k]? = some x:=by simpa using h
   rw [List.take_succ_cons,List.take_succ_cons,Lib.join_cons,Lib.join_cons,Lib.joinTail_take_succ _ _ _ _ h',if_neg (by omega)];simp
theorem ZeB (l:List (List UInt8)) (k:Nat):(Lib.join (l.take k) [44]).length<=(Lib.join l [44]).length:=by
 cases l with
 | nil=>simp [Lib.join_nil]
 | cons y r=>
  cases k with
  | zero=>simp [Lib.join_nil]
  | succ k=>
   rw [List.take_succ_cons,Lib.join_cons,Lib.join_cons,List.length_append,List.length_append];have:=Lib.joinTail_take_le [44] r k;omega
theorem Zfr {A:Nat->Prop} (m:Mth) (v:Value) (w:World) (hv:MthR A w m v) (hb:m.brief) :
  Calls Tryz.prog 121 #[v] w (Zca (ZaH m) w):=by
 obtain ⟨pv,cv,kv,rfl,hp,hcd,hkt⟩:=hv;obtain ⟨po,pc,rfl⟩:=hp.shape;obtain ⟨co,cc,rfl⟩:=hcd.shape;obtain ⟨ko,kc,rfl⟩:=hkt.shape;have hb0:Below w.heap.size w (w.alloc (.cells #[.string (S m.name),.slice po m.params.length pc,.string (S m.res),.bool m.abs,.int .i64 m.loc,.slice co m.code.length cc,.slice ko m.cats.length kc] 44)):=(Below.refl _ w).alloc (Nat.le_refl _) _;have HB0:=Hd hb0;have HBX:=Hd (Box.new w #[.string (S m.name),.slice po m.params.length pc,.string (S m.res),.bool m.abs,.int .i64 m.loc,.slice co m.code.length cc,.slice ko m.cats.length kc] 44);have HC:=Hd (Src.elem (StrR.st.below hp hb0));have hn1:m.params.length<=70368744177664:=hb.2.2;have HJ:=Hd hb.1;have hr:(S m.res).size<=70368744177664:=by rw [Zaz];exact hb.2.1
 have he:S (ZaH m)=S ([40]++Lib.join m.params [44])++S [41]++S m.res:=by unfold ZaH;rw [Zci,Zci];congr 1;simp
 obtain ⟨R,hR⟩:∃ R,R=S (ZaH m):=⟨_,rfl⟩
 unfold Zca;rw [←hR];rw [←hR] at he;have HE:=Hd he;clear he hR hp hcd hkt hb0 hb;obtain ⟨n,hn⟩:∃ n,n=m.params.length:=⟨_,rfl⟩
 have HN:=Hd hn;simp only [←hn] at HB0 HBX HC hn1 ⊢;clear hn;obtain ⟨name,params,res,ab,loc,code,cats⟩:=m;dsimp only at *;generalize S res=uR at HB0 HBX HC HE hr ⊢;go_enter Tryz.func121,Tryz.ntmps121;go_wp2;generalize w.alloc (.cells #[.string (S name),.slice po n pc,.string uR,.bool ab,.int .i64 loc,.slice co code.length cc,.slice ko cats.length kc] 44)=W0 at HB0 HBX HC ⊢;obtain ⟨B,hB⟩:∃ B,B=w.heap.size:=⟨_,rfl⟩
 rw [←hB] at HBX ⊢;clear hB;have c1:=HBX.out.cell 1 rfl
 go_loop [3,4] (fun v3 v4=>∃ k:Nat,k<=n/\v4=.int .i64 k/\v3=.string (S ([40]++Lib.join (params.take k) [44]))) (fun _ v4=>n - (intOf v4).toNat)
 case atStart=>exact ⟨0,Nat.zero_le _,rfl,rfl⟩
 case round=>
  obtain ⟨k,hk,rfl,rfl⟩:=hrel;by_cases hlt:k<n
  ·have hkl:k<params.length:=by have:=HN.out;omega
   obtain ⟨x,hx⟩:∃ x,params[k]? = some x:=⟨_,List.getElem?_eq_getElem hkl⟩
   obtain ⟨b,o,v,rfl,hv,hsz,hcl⟩:=HC.out k x hx;obtain rfl:=hv;have d0:W0.cell? ⟨b,o+k,none⟩=some (.string (S x)):=by have q:=hcl 0 _ rfl;rw [Nat.mul_one] at q;exact q
   have hjt:=ZmA params k x hx;have hl1:=ZeB params k;have hl2:=ZeB params (k+1);rw [hjt,List.length_append,List.length_append] at hl2;have hl0:=HJ.out;have hA:(S ([40]++Lib.join (params.take k) [44])).size<=70368744177665:=by rw [Zaz,List.length_append];simp;omega
   have hX:(S x).size<=70368744177664:=by rw [Zaz];omega
   have hk0:(0:Int)<=k:=by omega
   have hkn:(k:Int)<(n:Int):=by omega
   by_cases hz:k=0
   ·subst hz;have e1:S ([40]++Lib.join (params.take (0+1)) [44])=S ([40]++Lib.join (params.take 0) [44])++S x:=by rw [hjt,Zci];exact congrArg S (by simp)
    have HE1:=Hd e1;clear hx hkl hcl hsz hjt hl1 hl2 hl0 e1;generalize S ([40]++Lib.join (params.take 0) [44])=uA at HE1 hA ⊢;generalize S x=uX at HE1 hX d0;rw [Nat.add_zero] at d0;go_wp2
    go_round
    case rel=>exact ⟨0+1,by omega,by go_num,by rw [HE1.out]⟩
    case measure=>simp [intOf];omega
   ·have hkp:(0:Int)<(k:Int):=by omega
    have e1:S ([40]++Lib.join (params.take (k+1)) [44])=S ([40]++Lib.join (params.take k) [44])++S [44]++S x:=by rw [hjt,Zci,Zci,if_neg hz];exact congrArg S (by simp)
    have HE1:=Hd e1;clear hx hkl hcl hsz hjt hl1 hl2 hl0 e1 hz;generalize S ([40]++Lib.join (params.take k) [44])=uA at HE1 hA ⊢;generalize S x=uX at HE1 hX d0;go_wp2
    go_round
    case rel=>exact ⟨k+1,by omega,by go_num,by rw [HE1.out];rfl⟩
    case measure=>simp [intOf];omega
  ·obtain rfl:n=k:=by omega
   rw [HN.out,List.take_of_length_le (Nat.le_refl _)];have c2:=HBX.out.cell 2 rfl;have hA:(S ([40]++Lib.join params [44])).size<=70368744177665:=by have:=HJ.out;rw [Zaz,List.length_append];simp;omega
   have hkn:¬ ((n:Int)<(n:Int)):=by omega
   generalize S ([40]++Lib.join params [44])=uA at HE hA ⊢;rw [←HN.out];go_wp2;go_ret;exact ⟨by rw [HE.out];rfl,HB0.out⟩
end Go.Proofs.YtggcdinoflchjaaGreatDoor
namespace Go.Proofs.YtggcdinoflchjaaGreatDoor
theorem Zp8 (l:List (List UInt8)) (n:Nat) (h:∀ x ∈ l,x.length<=n):(Lib.joinTail [44] l).length<=l.length * (n+1):=by
 induction l with
 | nil=>simp [Lib.joinTail]
 | cons x l ih=>
  have h1:=h x List.mem_cons_self;have h2:=ih (fun y hy=>h y (List.mem_cons_of_mem _ hy));have e:Lib.joinTail [44] (x :: l)=44 :: (x++Lib.joinTail [44] l):=by simp [Lib.joinTail]
  rw [e,List.length_cons,List.length_append,List.length_cons,Nat.add_mul];omega
theorem Mth.Good.brief {m:Mth} (h:m.Good):m.brief:=by
 have h1:=h.nums.1;have h2:=h.res_len;have h3:∀ x ∈ m.params,x.length<=38:=fun x hx=>Zdd (h.params x hx)
 have hj:(Lib.join m.params [44]).length<=2000:=by
  cases hp:m.params with
  | nil=>rw [Lib.join_nil];simp
  | cons x r=>
   rw [hp] at h1 h3;have a:=h3 x List.mem_cons_self;have b:=Zp8 r 38 (fun y hy=>h3 y (List.mem_cons_of_mem _ hy));rw [List.length_cons] at h1;rw [Lib.join_cons,List.length_append];omega
 exact ⟨by omega,by omega,by omega⟩
end Go.Proofs.YtggcdinoflchjaaGreatDoor
namespace Go.Proofs.YtggcdinoflchjaaGreatDoor
open Go.RowKit
theorem Zne:∀ k,k<42->(ZaJ k).length<=6:=by decide
theorem Mth.Good.small {m:Mth} (h:m.Good):m.Small:=by
 have h1:=Zgv h.name;have h2:=h.res_len;have h3:=h.nums;have h0:m.abs=true->m.code.length=0/\m.cats.length=0:=fun ha=>by
  have:=h.body;unfold Mth.body at this;rw [ha] at this;simp only [if_true,Bool.and_eq_true,decide_eq_true_eq] at this;exact this.2
 refine ⟨by omega,by omega,by omega,by omega,by omega,fun x hx=>?_,fun x hx=>?_,fun x hx=>?_⟩
 ·have:=Zdd (h.params x hx);omega
 ·cases ha:m.abs with
  | true=>rw [List.length_eq_zero_iff.1 (h0 ha).1] at hx;cases hx
  | false=>
   obtain ⟨_,g2,_,_⟩:=h.real ha;obtain ⟨k1,_,k3⟩:=ZpM (g2 x hx) (h.held.2.1 x hx);have hi:=(Zgr k1).1;have hop:=(Zgr k1).2.1;have:=Zne _ hi;rw [hop] at this;exact ⟨by omega,by omega⟩
 ·cases ha:m.abs with
  | true=>rw [List.length_eq_zero_iff.1 (h0 ha).2] at hx;cases hx
  | false=>
   obtain ⟨_,_,g3,_⟩:=h.real ha;have:=Zc2 (Zn6 (g3 x hx) h3.2.2.1).2.2.2;omega
theorem Cls.Good.small {c:Cls} (h:c.Good):c.Small:=by
 have h1:=Zc2 h.name;have h2:=h.nums;have h3:=Zc2 h.above.1;refine ⟨by omega,by omega,by omega,by omega,by omega,fun x hx=>?_,fun x hx=>?_,fun x hx=>(h.mths x hx).small⟩
 ·have:=Zc2 (h.above.2 x hx);omega
 ·have:=h.flds x hx;unfold Fld.ok at this;rw [Bool.and_eq_true] at this;have h4:=Zgv this.1;have h5:=Zdd this.2;omega
theorem Cls.Good.apart {c:Cls} (h:c.Good):c.sup ≠ c.name/\c.name ∉ c.like:=by
 have h1:=h.parts.2;unfold Cls.fine Cls.names at h1;simp only [Bool.and_eq_true,Bool.not_eq_true',List.any_eq_false,beq_iff_eq] at h1;have h2:=h1.1.2.2.1;exact ⟨fun e=>h2 c.sup List.mem_cons_self e,fun e=>h2 c.name (List.mem_cons_of_mem _ e) rfl⟩
def rawE (c:Cls):Ent:=⟨c,none,[]⟩
def Zaw (cs:List Cls) (k:Nat):List Ent:=startL++(cs.take k).map rawE
def Zas (cs:List Cls):List Ent:=startL++cs.map rawE
def ZcX (cs:List Cls) (c:Cls):Ent:=⟨c,upE (Zas cs) c.sup,Zbr (Zas cs) c.like⟩
def Za8 (cs:List Cls) (k:Nat):List Ent:=startL++((cs.take k).map (ZcX cs)++(cs.drop k).map rawE)
def newT (cs:List Cls):List Ent:=startL++cs.map (ZcX cs)
theorem Zd4 (cs:List Cls):Zaw cs 0=startL:=by simp [Zaw]
theorem ZcP (cs:List Cls):Zaw cs cs.length=Zas cs:=by unfold Zaw Zas;rw [List.take_length]
theorem ZhC (cs:List Cls):Za8 cs 0=Zas cs:=by simp [Za8,Zas]
theorem Zfb (cs:List Cls):Za8 cs cs.length=newT cs:=by unfold Za8 newT;rw [List.take_length,List.drop_length];simp
theorem Zha (cs:List Cls) {k:Nat} (h:k<=cs.length):(Zaw cs k).length=8+k:=by unfold Zaw;rw [List.length_append,ZaE,List.length_map,List.length_take,Nat.min_eq_left h]
theorem ZaR (cs:List Cls):(newT cs).length=8+cs.length:=by unfold newT;rw [List.length_append,ZaE,List.length_map]
theorem ZdT (cs:List Cls) {k:Nat} (h:k<=cs.length):(Za8 cs k).length=8+cs.length:=by
 unfold Za8;rw [List.length_append,ZaE,List.length_append,List.length_map,List.length_map,List.length_take,List.length_drop,Nat.min_eq_left h];omega
theorem Zd3 {cs:List Cls} {k:Nat} {c:Cls} (h:cs[k]? = some c):Zaw cs (k+1)=Zaw cs k++[rawE c]:=by
 unfold Zaw;rw [List.take_add_one,h,List.map_append,List.append_assoc];rfl
theorem ZiJ {cs:List Cls} {k:Nat} {c:Cls} (h:cs[k]? = some c):(Za8 cs k)[8+k]? = some (rawE c):=by
 have hk:=(List.getElem?_eq_some_iff.1 h).1;unfold Za8;have h1:((cs.take k).map (ZcX cs)).length=k:=by rw [List.length_map,List.length_take,Nat.min_eq_left (Nat.le_of_lt hk)]
 rw [List.getElem?_append_right (by rw [ZaE];omega),ZaE,List.getElem?_append_right (by rw [h1];omega),h1,show 8+k - 8 - k=0 by omega,List.getElem?_map,List.getElem?_drop,Nat.add_zero,h];rfl
theorem ZhB {cs:List Cls} {k:Nat} {c:Cls} (h:cs[k]? = some c):(Za8 cs k).set (8+k) (ZcX cs c)=Za8 cs (k+1):=by
 have hk:=(List.getElem?_eq_some_iff.1 h).1;have h1:((cs.take k).map (ZcX cs)).length=k:=by rw [List.length_map,List.length_take,Nat.min_eq_left (Nat.le_of_lt hk)]
 unfold Za8;rw [List.set_append_right _ _ (by rw [ZaE];omega),ZaE,List.set_append_right _ _ (by rw [h1];omega),h1,show 8+k - 8 - k=0 by omega];have h2:cs.drop k=c :: cs.drop (k+1):=by
  rw [List.drop_eq_getElem_cons hk];rw [(List.getElem?_eq_some_iff.1 h).2]
 rw [h2,List.map_cons,List.set_cons_zero,List.take_add_one,h,List.map_append];simp
theorem Zbl {es es':List Ent} (h:es.map Ent.cls=es'.map Ent.cls) (n:List UInt8):Zad es n=Zad es' n:=by
 have e:∀ es:List Ent,Zad es n=(es.map Ent.cls).findIdx? (fun c=>c.name == n):=fun es=>by unfold Zad;rw [List.findIdx?_map];rfl
 rw [e,e,h]
theorem ZiA {es es':List Ent} (h:es.map Ent.cls=es'.map Ent.cls) (i:Nat):(es[i]?).map Ent.cls=(es'[i]?).map Ent.cls:=by
 rw [←List.getElem?_map,←List.getElem?_map,h]
theorem Zd9 {es es':List Ent} (h:es.map Ent.cls=es'.map Ent.cls) (i:Nat):Zcl es i=Zcl es' i:=by
 have h1:=ZiA h i;unfold Zcl;cases h2:es[i]? <;> cases h3:es'[i]? <;> rw [h2,h3] at h1 <;> simp at h1
 all_goals first|rfl|(dsimp only;rw [h1])
theorem Zl8 {es es':List Ent} (h:es.map Ent.cls=es'.map Ent.cls) (i:Nat):ZeY es i=ZeY es' i:=by
 have h1:=ZiA h i;unfold ZeY;cases h2:es[i]? <;> cases h3:es'[i]? <;> rw [h2,h3] at h1 <;> simp at h1
 all_goals first|rfl|(dsimp only;rw [h1])
theorem ZnN {es es':List Ent} (h:es.map Ent.cls=es'.map Ent.cls) (n:List UInt8):upE es n=upE es' n:=by
 unfold upE;rw [Zbl h];cases Zad es' n with
 | none=>rfl
 | some j=>dsimp only;rw [Zd9 h,Zl8 h]
theorem Zhx {es es':List Ent} (h:es.map Ent.cls=es'.map Ent.cls) (n:List UInt8):Zcd es n=Zcd es' n:=by
 unfold Zcd;rw [Zbl h];cases Zad es' n with
 | none=>rfl
 | some j=>dsimp only;rw [Zd9 h]
theorem Zkk {es es':List Ent} (h:es.map Ent.cls=es'.map Ent.cls) (l:List (List UInt8)):Zbr es l=Zbr es' l:=by
 unfold Zbr;exact List.map_congr_left (fun n _=>by rw [Zhx h])
theorem Ze8 {es es':List Ent} (h:es.map Ent.cls=es'.map Ent.cls) (l:List (List UInt8)):ZaF es l=ZaF es' l:=by
 unfold ZaF
 congr 1
 funext n
 rw [Zhx h]
theorem Zfc (cs:List Cls) (k:Nat):(Za8 cs k).map Ent.cls=(Zas cs).map Ent.cls:=by
 unfold Za8 Zas;rw [List.map_append,List.map_append,List.map_append,List.map_map,List.map_map,List.map_map]
 congr 1
 conv=>rhs;rw [←List.take_append_drop k cs,List.map_append]
 rfl
theorem Zb8 (cs:List Cls):(newT cs).map Ent.cls=(Zas cs).map Ent.cls:=by rw [←Zfb];exact Zfc cs _
def Uniq (es:List Ent):Prop:=∀ (i:Nat) (e:Ent),es[i]? = some e->Zad es e.cls.name=some i
theorem Zi7:Uniq startL:=fun i e h=>by
 match i,h with
 | 0,h=>obtain rfl:=Option.some.inj h;decide
 | 1,h=>obtain rfl:=Option.some.inj h;decide
 | 2,h=>obtain rfl:=Option.some.inj h;decide
 | 3,h=>obtain rfl:=Option.some.inj h;decide
 | 4,h=>obtain rfl:=Option.some.inj h;decide
 | 5,h=>obtain rfl:=Option.some.inj h;decide
 | 6,h=>obtain rfl:=Option.some.inj h;decide
 | 7,h=>obtain rfl:=Option.some.inj h;decide
 | k+8,h=>rw [List.getElem?_eq_none (by rw [ZaE];omega)] at h;cases h
theorem Uniq.snoc {es:List Ent} (h:Uniq es) {e:Ent} (hn:Zad es e.cls.name=none):Uniq (es++[e]):=fun i x hx=>by
 rw [Zdc];rcases Nat.lt_or_ge i es.length with h1|h1
 ·rw [List.getElem?_append_left h1] at hx;rw [h i x hx]
 ·have h2:i=es.length:=by
   have:=(List.getElem?_eq_some_iff.1 hx).1;rw [List.length_append] at this;simp at this
   omega
  subst h2;rw [List.getElem?_append_right (Nat.le_refl _),Nat.sub_self] at hx;obtain rfl:=Option.some.inj hx;rw [hn];simp
theorem Zck {cs:List Cls} (hn:∀ k c,cs[k]? = some c->Zad (Zaw cs k) c.name=none):∀ k,k<=cs.length->Uniq (Zaw cs k)
 | 0,_=>by rw [Zd4];exact Zi7
 | k+1,hk=>by
  have hc:cs[k]? = some cs[k]:=List.getElem?_eq_getElem (by omega);rw [Zd3 hc];exact (Zck hn k (by omega)).snoc (hn k _ hc)
theorem Uniq.cls {es es':List Ent} (h:es.map Ent.cls=es'.map Ent.cls) (u:Uniq es'):Uniq es:=fun i e he=>by
 rw [Zbl h];have h1:=ZiA h i;rw [he] at h1;cases h2:es'[i]? with
 | none=>rw [h2] at h1;cases h1
 | some e'=>
  rw [h2] at h1;rw [Option.some.inj (show some e.cls=some e'.cls from h1)];exact u i e' h2
structure Lined (cs:List Cls):Prop where
 len:cs.length<=1000
 good:∀ c ∈ cs,c.Good
 names:∀ k c,cs[k]? = some c->Zad (Zaw cs k) c.name=none
 ups:∀ c ∈ cs,(upE (Zas cs) c.sup).isSome=true
 likes:∀ c ∈ cs,ZaF (Zas cs) c.like=true
theorem Lined.uniq {cs:List Cls} (h:Lined cs):Uniq (newT cs):=by
 refine Uniq.cls (Zb8 cs) ?_;rw [←ZcP];exact Zck h.names _ (Nat.le_refl _)
theorem Zba {cs:List Cls} {i:Nat} {e:Ent} (h:(newT cs)[i]? = some e):(i<8/\startL[i]? = some e)\/(8<=i/\∃ c,cs[i - 8]? = some c/\e=ZcX cs c):=by
 unfold newT at h;rcases Nat.lt_or_ge i 8 with h1|h1
 ·rw [List.getElem?_append_left (by rw [ZaE];exact h1)] at h;exact .inl ⟨h1,h⟩
 ·rw [List.getElem?_append_right (by rw [ZaE];exact h1),ZaE,List.getElem?_map] at h;obtain ⟨c,h2,h3⟩:=Option.map_eq_some_iff.1 h;exact .inr ⟨h1,c,h2,h3.symm⟩
theorem ZgY (cs:List Cls):(Zas cs).length=8+cs.length:=by unfold Zas;rw [List.length_append,ZaE,List.length_map]
theorem ZhZ:∀ i,i<8->∀ d ∈ parE startL i,d<2/\d ≠ i:=by decide
theorem Zcs {cs:List Cls} {i:Nat} (h:i<8):parE (newT cs) i=parE startL i:=by
 unfold parE newT;rw [List.getElem?_append_left (by rw [ZaE];exact h)]
theorem Lined.par {cs:List Cls} (h:Lined cs):ZcZ (newT cs):=fun c d hd=>by
 rw [ZaR];cases he:(newT cs)[c]? with
 | none=>unfold parE at hd;rw [he] at hd;cases hd
 | some e=>
  rcases Zba he with ⟨h1,h2⟩|⟨h1,x,h2,rfl⟩
  ·rw [Zcs h1] at hd;have:=(ZhZ c h1 d hd).1;omega
  ·rw [ZcH he] at hd;unfold Ent.par ZcX at hd;have hx:=List.mem_of_getElem? h2;rcases List.mem_append.1 hd with h3|h3
   ·have h4:upE (Zas cs) x.sup=some d:=by simpa using h3
    have:=(Zh1 h4).2;rw [ZgY] at this;exact this
   ·have:=Zhy (h.likes x hx) d h3;rw [ZgY] at this;exact this
theorem Zdn {es:List Ent} {n:List UInt8} {i:Nat} (h:Zad es n=some i):∃ e,es[i]? = some e/\e.cls.name=n:=by
 unfold Zad at h;obtain ⟨h1,h2,_⟩:=List.findIdx?_eq_some_iff_getElem.1 h;exact ⟨es[i],List.getElem?_eq_getElem h1,by simpa using h2⟩
theorem ZcC {es:List Ent} {n:List UInt8} {j:Nat} (h:Zcd es n=some j):Zad es n=some j/\Zcl es j=true:=by
 unfold Zcd at h;cases hp:Zad es n with
 | none=>rw [hp] at h;cases h
 | some i=>
  rw [hp] at h;dsimp only at h;split at h
  ·rename_i hi
   obtain rfl:=Option.some.inj h;exact ⟨rfl,hi⟩
  ·cases h
theorem Lined.self {cs:List Cls} (h:Lined cs) (c:Nat):c ∉ parE (newT cs) c:=fun hd=>by
 cases he:(newT cs)[c]? with
 | none=>unfold parE at hd;rw [he] at hd;cases hd
 | some e=>
  rcases Zba he with ⟨h1,h2⟩|⟨h1,x,h2,rfl⟩
  ·rw [Zcs h1] at hd;exact (ZhZ c h1 c hd).2 rfl
  ·rw [ZcH he] at hd;unfold Ent.par ZcX at hd;have hx:=List.mem_of_getElem? h2;have hap:=(h.good x hx).apart;have key:∀ n,Zad (Zas cs) n=some c->x.name=n:=fun n hp=>by
    rw [←Zbl (Zb8 cs)] at hp;obtain ⟨e2,h5,h6⟩:=Zdn hp;rw [he] at h5;obtain rfl:=Option.some.inj h5;exact h6
   rcases List.mem_append.1 hd with h3|h3
   ·have h4:upE (Zas cs) x.sup=some c:=by simpa using h3
    exact hap.1 (key _ (Zh1 h4).1).symm
   ·obtain ⟨n,hn1,hn2⟩:=List.mem_map.1 (show c ∈ x.like.map fun n=>(Zcd (Zas cs) n).getD 0 from h3);have h5:=List.all_eq_true.1 (h.likes x hx) n hn1;obtain ⟨j,hj⟩:=Option.isSome_iff_exists.1 h5;rw [hj] at hn2;obtain rfl:j=c:=hn2;exact hap.2 ((key _ (ZcC hj).1) ▸ hn1)
theorem Zi8:∀ e ∈ startL,e.cls.name.length<=32/\e.cls.flds.length<=32/\e.cls.mths.length<=32/\e.lk.length<=32:=by
 have h:startL.all (fun e=>decide (e.cls.name.length<=32/\e.cls.flds.length<=32/\e.cls.mths.length<=32/\e.lk.length<=32))=true:=by decide
 exact fun e he=>of_decide_eq_true (List.all_eq_true.1 h e he)
theorem Lined.small {cs:List Cls} (h:Lined cs) (i:Nat) (e:Ent) (he:(newT cs)[i]? = some e):e.cls.name.length<=32/\e.cls.flds.length<=32/\e.cls.mths.length<=32/\e.lk.length<=32:=by
 rcases Zba he with ⟨h1,h2⟩|⟨h1,x,h2,rfl⟩
 ·exact Zi8 e (List.mem_of_getElem? h2)
 ·have hg:=h.good x (List.mem_of_getElem? h2);have h3:=Zc2 hg.name;have h4:=hg.nums;refine ⟨h3,h4.2.1,h4.2.2,?_⟩;show (Zbr (Zas cs) x.like).length<=32
  unfold Zbr;rw [List.length_map];exact h4.1
theorem Lined.shape {cs:List Cls} (h:Lined cs) (ha:Acyc (newT cs)):Shape (newT cs):=
 ha.shape h.par (by rw [ZaR];have:=h.len;omega) (fun i e he=>by have:=(h.small i e he).2.2.2;omega) (fun i e he=>(h.small i e he).2.1) (fun i e he=>(h.small i e he).1)
theorem ZjM (B:Nat->Nat) (F:Nat) (caps:Array Value) (x:Nat) (Y N:World->Prop) (w:World) (he:∀ args w,(callFunc F args).run Tryz.prog w=.ok (.enter F args) w)
  (h:Calls Tryz.prog F (#[entV B x]++caps) w (YesNo Y (fun w1=>
   Calls Tryz.prog 225 #[.pointer (some ⟨B x,0,none⟩),.map (some w1.heap.size),.func (.func F) #[] caps] (w1.alloc (.map #[] 0)) (YesNo Y N)))) :
  Calls Tryz.prog 178 #[.pointer (some ⟨B x,0,none⟩),.func (.func F) #[] caps] w (YesNo Y N):=by
 have hmm:=@run_makeMap Tryz.prog;have H:=Hd h;clear h;go_enter Tryz.func178,Tryz.ntmps178
 go_wp2_with fail
 refine H.out.mono ?_;rintro e1 w3 ⟨b,rfl,hy,hno⟩;have HY:=Hd hy;have HNO:=Hd hno;clear hy hno H;cases b
 ·have HK:=Hd (HNO.out rfl);clear HY HNO
  go_wp2_with fail
  refine HK.out.mono ?_;rintro e1 w4 ⟨b,rfl,hy,hno⟩;have HY:=Hd hy;have HNO:=Hd hno;clear hy hno HK;cases b
  ·have HK:=Hd (HNO.out rfl);clear HY HNO;go_wp2;go_ret;exact ⟨false,rfl,(fun h=>by cases h),fun _=>HK.out⟩
  ·have HK:=Hd (HY.out rfl);clear HY HNO;go_wp2;go_ret;exact ⟨true,rfl,fun _=>HK.out,(fun h=>by cases h)⟩
 ·have HK:=Hd (HY.out rfl);clear HY HNO;go_wp2;go_ret;exact ⟨true,rfl,fun _=>HK.out,(fun h=>by cases h)⟩
def Zau (es:List Ent) (x:Nat):List Nat:=x :: vis es es.length [] (lkOf es x)
theorem ZgX {A:Nat->Prop} {B:Nat->Nat} {T mb:Nat} {es:List Ent} {w0:World} (hT:Tab A w0 T mb B es) (hS:Shape es) (F:Nat) (caps:Array Value)
  (he:∀ args w,(callFunc F args).run Tryz.prog w=.ok (.enter F args) w) (lo x:Nat) (hx:x<es.length) (J K:Nat->World->Prop) (w:World) (hsz:∀ k w',J k w'->lo<=w'.heap.size)
  (hJ:∀ k w',J k w'->Below w0.heap.size w0 w') (hJs:Zls lo J) (hF:Zlu B F caps lo (Zau es x) J K) (h0:J 0 w) :
  Calls Tryz.prog 178 #[.pointer (some ⟨B x,0,none⟩),.func (.func F) #[] caps] w (YesNo (fun w'=>∃ k,k<(Zau es x).length/\K k w') (J (Zau es x).length)):=by
 obtain ⟨e,hex⟩:∃ e,es[x]? = some e:=⟨_,List.getElem?_eq_getElem hx⟩
 have hlk:lkOf es x=e.lk:=Za9 hex;refine ZjM B F caps x _ _ w he ?_;refine (hF 0 x w rfl h0).mono fun e1 w1 q=>q.1.mono' (fun h=>⟨0,Nat.succ_pos _,h⟩) (fun h1=>?_)
 have hm:Met (w1.alloc (.map #[] 0)) w1.heap.size []:=Met.new w1;have hl1:=hsz 1 w1 h1;unfold Zau at hF ⊢;rw [hlk] at hF ⊢;refine (Zmj hT hS.len hS.lk F caps he lo w1.heap.size hl1 es.length x e [] (fun k=>J (k+1)) (fun k=>K (k+1)) _ hex (hS.deep x e hex) .nil (fun y hy=>by cases hy) (fun k w' h=>hJ _ w' h) (fun k a b h1 h2=>hJs _ a b h1 h2)
  (fun k y w' hy hj=>hF (k+1) y w' (by rw [List.getElem?_cons_succ];exact hy) hj) (hJs 1 _ _ h1 ((Only.refl _ w1).alloc _)) hm).mono fun e2 w2 q=>q.mono' (fun ⟨k,hk,h⟩=>⟨k+1,by rw [List.length_cons];omega,h⟩) (fun h=>?_)
 rw [List.length_cons];exact h.1
theorem ZjL {A:Nat->Prop} {B:Nat->Nat} {T mb:Nat} {es:List Ent} {w0:World} (hT:Tab A w0 T mb B es) (hS:Shape es) (F:Nat) (caps:Array Value) (he:∀ args w,(callFunc F args).run Tryz.prog w=.ok (.enter F args) w)
  (x:Nat) (hx:x<es.length) (p:Nat->Bool) (w:World) (hw:Below w0.heap.size w0 w) (hF:∀ y w',y ∈ Zau es x->Below w.heap.size w w'->Calls Tryz.prog F (#[entV B y]++caps) w' (Said (p y) w')) :
  Calls Tryz.prog 178 #[.pointer (some ⟨B x,0,none⟩),.func (.func F) #[] caps] w (Said ((Zau es x).any p) w):=by
 refine (ZgX hT hS F caps he w.heap.size x hx (fun k w'=>Below w.heap.size w w'/\((Zau es x).take k).any p=false) (fun _ w'=>Below w.heap.size w w'/\(Zau es x).any p=true) w (fun k w' h=>h.1.size)
  (fun k w' h=>hw.trans (h.1.mono hw.size)) (fun k w1 w2 h ho=>⟨h.1.trans (Only.below ho h.1.size (fun i hi=>hi)),h.2⟩) (fun k y w' hy hj=>?_) ⟨Below.refl _ _,by simp⟩).mono fun e w' q=>?_
 ·refine (hF y w' (List.mem_of_getElem? hy) hj.1).mono fun e w'' ⟨h1,h2⟩=>?_
  have hb:=hj.1.trans (h2.mono hj.1.size);refine ⟨⟨p y,h1,fun hp=>⟨hb,List.any_eq_true.2 ⟨y,List.mem_of_getElem? hy,hp⟩⟩,fun hp=>⟨hb,?_⟩⟩,Only.ofBelow h2⟩;rw [Zah p _ k y hy,hj.2,hp];rfl
 ·obtain ⟨b,h1,h2,h3⟩:=q;cases b with
  | true=>
   obtain ⟨_,_,h4,h5⟩:=h2 rfl;exact ⟨by rw [h5];exact h1,h4⟩
  | false=>
   obtain ⟨h4,h5⟩:=h3 rfl;rw [List.take_length] at h5;exact ⟨by rw [h5];exact h1,h4⟩
