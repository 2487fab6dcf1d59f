/-
  Texts LSign, LInj, HGood, HNewP, HAdd: laws that the claims lean on.
  Conditions: as each law says.
-/
import Derived.Test.YtpincofjopmaaaaGreatDoorK27
set_option maxRecDepth 100000
set_option maxHeartbeats 16000000
namespace Go.Proofs.YtpincofjopmaaaaGreatDoor
open Go.RowKit
def signB (m:Mth):List UInt8:=[40]++(Lib.join m.params [44]++([41]++m.res))
def Mth.brief (m:Mth):Prop:=(Lib.join m.params [44]).length<=70368744177664/\m.res.length<=70368744177664/\m.params.length<=70368744177664
theorem map_S (l:List (List UInt8)):(l.map S).map (·.data.toList)=l:=by
 rw [List.map_map]
 conv=>rhs;rw [←List.map_id l]
 exact List.map_congr_left (fun x _=>rfl)
theorem join_any {A:Nat->Prop} {w:World} {po:Option Addr} {pc:Nat} (l:List (List UInt8)) (hs:Src 1 StrR A w (.slice po l.length pc) l) (hl:(Lib.join l [44]).length<=70368744177664) (hn:l.length<=70368744177664) :
  Calls Tryz.prog 47 #[.slice po l.length pc,.string ⟨#[44]⟩] w fun e w'=>e=.returned (.string (S (Lib.join l [44])))/\Below w.heap.size w w':=by
 rcases hs with ⟨ao,cp0,he,rfl⟩|⟨b,o,cap,he,⟨_,hb,hc,_⟩,hcl⟩
 ·exact (strings_Join_none po pc ⟨#[44]⟩ w).mono fun e w' ⟨h1,h2⟩=>⟨h1,h2 ▸ Below.refl _ _⟩
 ·simp at he
  obtain ⟨rfl,rfl⟩:=he;have h:=strings_Join b o pc (l.map S) ⟨#[44]⟩ w (fun j x hx=>by
   rw [List.getElem?_map,Option.map_eq_some_iff] at hx;obtain ⟨y,hy,rfl⟩:=hx;obtain ⟨v,hv,_,hcv⟩:=hcl j y hy;obtain rfl:=hv;have q:=hcv 0 _ rfl;rw [Nat.mul_one] at q;exact q) hb (by rw [List.length_map];omega) (by rw [List.length_map];exact hc) (by rw [map_S];show (Lib.join l [44]).length<=_;omega)
  rw [map_S,List.length_map] at h;exact h
theorem csign_any {A:Nat->Prop} (m:Mth) (v:Value) (w:World) (hv:MthR A w m v) (hb:m.brief) :
  Calls Tryz.prog 16 #[v] w (SaidS (signB m) w):=by
 obtain ⟨pv,cv,kv,rfl,hp,hcd,hkt⟩:=hv;obtain ⟨po,pc,rfl⟩:=hp.shape;obtain ⟨co,cc,rfl⟩:=hcd.shape;obtain ⟨ko,kc,rfl⟩:=hkt.shape;have hb0:Below w.heap.size w (w.alloc (.cells #[.string (S m.name),.slice po m.params.length pc,.string (S m.res),.bool m.abs,.int .i64 m.loc,.slice co m.code.length cc,.slice ko m.cats.length kc] 33)):=(Below.refl _ w).alloc (Nat.le_refl _) _;have HB0:=Hd hb0;have HBX:=Hd (Box.new w #[.string (S m.name),.slice po m.params.length pc,.string (S m.res),.bool m.abs,.int .i64 m.loc,.slice co m.code.length cc,.slice ko m.cats.length kc] 33);have HJ:Hid (∀ W,Below (w.alloc (.cells #[.string (S m.name),.slice po m.params.length pc,.string (S m.res),.bool m.abs,.int .i64 m.loc,.slice co m.code.length cc,.slice ko m.cats.length kc] 33)).heap.size (w.alloc (.cells #[.string (S m.name),.slice po m.params.length pc,.string (S m.res),.bool m.abs,.int .i64 m.loc,.slice co m.code.length cc,.slice ko m.cats.length kc] 33)) W->Calls Tryz.prog 47 #[.slice po m.params.length pc,.string ⟨#[44]⟩] W fun e w'=>e=.returned (.string (S (Lib.join m.params [44])))/\Below W.heap.size W w'):=Hd (fun W hW=>join_any m.params (StrR.st.below (StrR.st.below hp hb0) hW) hb.1 hb.2.2);have e1:S (signB m)=S [40]++S (Lib.join m.params [44])++S [41]++S m.res:=by unfold signB;rw [S_append,S_append,S_append];congr 1;simp
 have hj:(S (Lib.join m.params [44])).size<=70368744177664:=by rw [S_size];exact hb.1
 have hr:(S m.res).size<=70368744177664:=by rw [S_size];exact hb.2.1
 clear hp hcd hkt hb0 hb;obtain ⟨R,hR⟩:∃ R,R=S (signB m):=⟨_,rfl⟩
 unfold SaidS;rw [←hR];rw [←hR] at e1;generalize S (Lib.join m.params [44])=uJ at HJ hj e1;have HE:=Hd e1;clear e1 hR;obtain ⟨name,params,res,ab,loc,code,cats⟩:=m;dsimp only at *;generalize S res=uR at HB0 HBX HJ HE hr ⊢;generalize params.length=n1 at *;generalize code.length=n2 at *;generalize cats.length=n3 at *;go_enter Tryz.func16,Tryz.ntmps16
 go_upto_region 1 with fail
 generalize w.alloc (.cells #[.string (S name),.slice po n1 pc,.string uR,.bool ab,.int .i64 loc,.slice co n2 cc,.slice ko n3 kc] 33)=W0 at HB0 HBX HJ ⊢;obtain ⟨B,hB⟩:∃ B,B=w.heap.size:=⟨_,rfl⟩
 rw [←hB] at HBX ⊢;clear hB;have HS:Hid (∀ W,Below W0.heap.size W0 W->W.cell? ⟨B,1,none⟩=some (.slice po n1 pc)/\W.cell? ⟨B,2,none⟩=some (.string uR)):=Hd (fun W hW=>⟨(HBX.out.below hW).cell 1 rfl,(HBX.out.below hW).cell 2 rfl⟩);obtain ⟨g0,g1⟩:=HS.out _ (Below.refl _ W0);have k1:¬ (9223372036854775807<1+uJ.size):=by omega
 have k2:¬ (9223372036854775807<1+uJ.size+1):=by omega
 have k3:¬ (9223372036854775807<1+uJ.size+1+uR.size):=by omega
 first
 | (go_region_held (fun W=>W.cell? ⟨B,1,none⟩=some (.slice po n1 pc)/\W.cell? ⟨B,2,none⟩=some (.string uR)) ((refine HS.out _ ?_;(repeat (first|(with_reducible exact Below.refl _ _)|(with_reducible (apply below_step;rotate_left;assumption))|(with_reducible refine below_drew ?_)))))
   (first|((with_reducible refine (HJ.out _ ?_).mono ?_);(focus ((repeat (first|(with_reducible exact Below.refl _ _)|(with_reducible (apply below_step;rotate_left;assumption))|(with_reducible refine below_drew ?_)));done));rintro e w1 ⟨rfl,b9⟩)))
 | fail
 have hbe:Below w.heap.size w w1:=HB0.out.trans (Below.mono (by (repeat (first|(with_reducible exact b9)|(with_reducible (apply below_step;rotate_left;assumption))|(with_reducible exact Below.refl _ _)|(with_reducible refine below_drew ?_)))) HB0.out.size);go_wp2;go_ret;exact ⟨by rw [HE.out];rfl,hbe⟩
theorem join_take (l:List (List UInt8)) (k:Nat) (x:List UInt8) (h:l[k]? = some x):Lib.join (l.take (k+1)) [44]=Lib.join (l.take k) [44]++((if k=0 then [] else [44])++x):=by
 cases l with
 | nil=>simp at h
 | cons y r=>
  cases k with
  | zero=>simp at h;subst h;simp [Lib.join_one,Lib.join_nil]
  | succ k=>
   have h':r[k]? = some x:=by simpa using h
   rw [List.take_succ_cons,List.take_succ_cons,Lib.join_cons,Lib.join_cons,Lib.joinTail_take_succ _ _ _ _ h',if_neg (by omega)];simp
theorem join_take_le (l:List (List UInt8)) (k:Nat):(Lib.join (l.take k) [44]).length<=(Lib.join l [44]).length:=by
 cases l with
 | nil=>simp [Lib.join_nil]
 | cons y r=>
  cases k with
  | zero=>simp [Lib.join_nil]
  | succ k=>
   rw [List.take_succ_cons,Lib.join_cons,Lib.join_cons,List.length_append,List.length_append];have:=Lib.joinTail_take_le [44] r k;omega
theorem refsign_any {A:Nat->Prop} (m:Mth) (v:Value) (w:World) (hv:MthR A w m v) (hb:m.brief) :
  Calls Tryz.prog 17 #[v] w (SaidS (signB m) w):=by
 obtain ⟨pv,cv,kv,rfl,hp,hcd,hkt⟩:=hv;obtain ⟨po,pc,rfl⟩:=hp.shape;obtain ⟨co,cc,rfl⟩:=hcd.shape;obtain ⟨ko,kc,rfl⟩:=hkt.shape;have hb0:Below w.heap.size w (w.alloc (.cells #[.string (S m.name),.slice po m.params.length pc,.string (S m.res),.bool m.abs,.int .i64 m.loc,.slice co m.code.length cc,.slice ko m.cats.length kc] 33)):=(Below.refl _ w).alloc (Nat.le_refl _) _;have HB0:=Hd hb0;have HBX:=Hd (Box.new w #[.string (S m.name),.slice po m.params.length pc,.string (S m.res),.bool m.abs,.int .i64 m.loc,.slice co m.code.length cc,.slice ko m.cats.length kc] 33);have HC:=Hd (Src.elem (StrR.st.below hp hb0));have hn1:m.params.length<=70368744177664:=hb.2.2;have HJ:=Hd hb.1;have hr:(S m.res).size<=70368744177664:=by rw [S_size];exact hb.2.1
 have he:S (signB m)=S ([40]++Lib.join m.params [44])++S [41]++S m.res:=by unfold signB;rw [S_append,S_append];congr 1;simp
 obtain ⟨R,hR⟩:∃ R,R=S (signB m):=⟨_,rfl⟩
 unfold SaidS;rw [←hR];rw [←hR] at he;have HE:=Hd he;clear he hR hp hcd hkt hb0 hb;obtain ⟨n,hn⟩:∃ n,n=m.params.length:=⟨_,rfl⟩
 have HN:=Hd hn;simp only [←hn] at HB0 HBX HC hn1 ⊢;clear hn;obtain ⟨name,params,res,ab,loc,code,cats⟩:=m;dsimp only at *;generalize S res=uR at HB0 HBX HC HE hr ⊢;go_enter Tryz.func17,Tryz.ntmps17;go_wp2;generalize w.alloc (.cells #[.string (S name),.slice po n pc,.string uR,.bool ab,.int .i64 loc,.slice co code.length cc,.slice ko cats.length kc] 33)=W0 at HB0 HBX HC ⊢;obtain ⟨B,hB⟩:∃ B,B=w.heap.size:=⟨_,rfl⟩
 rw [←hB] at HBX ⊢;clear hB;have c1:=HBX.out.cell 1 rfl
 go_loop [3,4] (fun v3 v4=>∃ k:Nat,k<=n/\v4=.int .i64 k/\v3=.string (S ([40]++Lib.join (params.take k) [44]))) (fun _ v4=>n - (intOf v4).toNat)
 case atStart=>exact ⟨0,Nat.zero_le _,rfl,rfl⟩
 case round=>
  obtain ⟨k,hk,rfl,rfl⟩:=hrel;by_cases hlt:k<n
  ·have hkl:k<params.length:=by have:=HN.out;omega
   obtain ⟨x,hx⟩:∃ x,params[k]? = some x:=⟨_,List.getElem?_eq_getElem hkl⟩
   obtain ⟨b,o,v,rfl,hv,hsz,hcl⟩:=HC.out k x hx;obtain rfl:=hv;have d0:W0.cell? ⟨b,o+k,none⟩=some (.string (S x)):=by have q:=hcl 0 _ rfl;rw [Nat.mul_one] at q;exact q
   have hjt:=join_take params k x hx;have hl1:=join_take_le params k;have hl2:=join_take_le params (k+1);rw [hjt,List.length_append,List.length_append] at hl2;have hl0:=HJ.out;have hA:(S ([40]++Lib.join (params.take k) [44])).size<=70368744177665:=by rw [S_size,List.length_append];simp;omega
   have hX:(S x).size<=70368744177664:=by rw [S_size];omega
   have hk0:(0:Int)<=k:=by omega
   have hkn:(k:Int)<(n:Int):=by omega
   by_cases hz:k=0
   ·subst hz;have e1:S ([40]++Lib.join (params.take (0+1)) [44])=S ([40]++Lib.join (params.take 0) [44])++S x:=by rw [hjt,S_append];exact congrArg S (by simp)
    have HE1:=Hd e1;clear hx hkl hcl hsz hjt hl1 hl2 hl0 e1;generalize S ([40]++Lib.join (params.take 0) [44])=uA at HE1 hA ⊢;generalize S x=uX at HE1 hX d0;rw [Nat.add_zero] at d0;go_wp2
    go_round
    case rel=>exact ⟨0+1,by omega,by go_num,by rw [HE1.out]⟩
    case measure=>simp [intOf];omega
   ·have hkp:(0:Int)<(k:Int):=by omega
    have e1:S ([40]++Lib.join (params.take (k+1)) [44])=S ([40]++Lib.join (params.take k) [44])++S [44]++S x:=by rw [hjt,S_append,S_append,if_neg hz];exact congrArg S (by simp)
    have HE1:=Hd e1;clear hx hkl hcl hsz hjt hl1 hl2 hl0 e1 hz;generalize S ([40]++Lib.join (params.take k) [44])=uA at HE1 hA ⊢;generalize S x=uX at HE1 hX d0;go_wp2
    go_round
    case rel=>exact ⟨k+1,by omega,by go_num,by rw [HE1.out];rfl⟩
    case measure=>simp [intOf];omega
  ·obtain rfl:n=k:=by omega
   rw [HN.out,List.take_of_length_le (Nat.le_refl _)];have c2:=HBX.out.cell 2 rfl;have hA:(S ([40]++Lib.join params [44])).size<=70368744177665:=by have:=HJ.out;rw [S_size,List.length_append];simp;omega
   have hkn:¬ ((n:Int)<(n:Int)):=by omega
   generalize S ([40]++Lib.join params [44])=uA at HE hA ⊢;rw [←HN.out];go_wp2;go_ret;exact ⟨by rw [HE.out];rfl,HB0.out⟩
end Go.Proofs.YtpincofjopmaaaaGreatDoor
namespace Go.Proofs.YtpincofjopmaaaaGreatDoor
theorem sig_len (l:List (List UInt8)) (n:Nat) (h:∀ x ∈ l,x.length<=n):(Lib.joinTail [44] l).length<=l.length * (n+1):=by
 induction l with
 | nil=>simp [Lib.joinTail]
 | cons x l ih=>
  have h1:=h x List.mem_cons_self;have h2:=ih (fun y hy=>h y (List.mem_cons_of_mem _ hy));have e:Lib.joinTail [44] (x :: l)=44 :: (x++Lib.joinTail [44] l):=by simp [Lib.joinTail]
  rw [e,List.length_cons,List.length_append,List.length_cons,Nat.add_mul];omega
theorem Mth.Good.brief {m:Mth} (h:m.Good):m.brief:=by
 have h1:=h.nums.1;have h2:=h.res_len;have h3:∀ x ∈ m.params,x.length<=38:=fun x hx=>right_len (h.params x hx)
 have hj:(Lib.join m.params [44]).length<=2000:=by
  cases hp:m.params with
  | nil=>rw [Lib.join_nil];simp
  | cons x r=>
   rw [hp] at h1 h3;have a:=h3 x List.mem_cons_self;have b:=sig_len r 38 (fun y hy=>h3 y (List.mem_cons_of_mem _ hy));rw [List.length_cons] at h1;rw [Lib.join_cons,List.length_append];omega
 exact ⟨by omega,by omega,by omega⟩
end Go.Proofs.YtpincofjopmaaaaGreatDoor
namespace Go.Proofs.YtpincofjopmaaaaGreatDoor
open Go.RowKit
theorem opname_le:∀ k,k<42->(nameAt k).length<=6:=by decide
theorem Mth.Good.small {m:Mth} (h:m.Good):m.Small:=by
 have h1:=memB_len h.name;have h2:=h.res_len;have h3:=h.nums;have h0:m.abs=true->m.code.length=0/\m.cats.length=0:=fun ha=>by
  have:=h.body;unfold Mth.body at this;rw [ha] at this;simp only [if_true,Bool.and_eq_true,decide_eq_true_eq] at this;exact this.2
 refine ⟨by omega,by omega,by omega,by omega,by omega,fun x hx=>?_,fun x hx=>?_,fun x hx=>?_⟩
 ·have:=right_len (h.params x hx);omega
 ·cases ha:m.abs with
  | true=>rw [List.length_eq_zero_iff.1 (h0 ha).1] at hx;cases hx
  | false=>
   obtain ⟨_,g2,_,_⟩:=h.real ha;obtain ⟨k1,_,k3⟩:=fine_ok (g2 x hx) (h.held.2.1 x hx);have hi:=(ins_fine k1).1;have hop:=(ins_fine k1).2.1;have:=opname_le _ hi;rw [hop] at this;exact ⟨by omega,by omega⟩
 ·cases ha:m.abs with
  | true=>rw [List.length_eq_zero_iff.1 (h0 ha).2] at hx;cases hx
  | false=>
   obtain ⟨_,_,g3,_⟩:=h.real ha;have:=classB_len (cat_nums (g3 x hx) h3.2.2.1).2.2.2;omega
theorem Cls.Good.small {c:Cls} (h:c.Good):c.Small:=by
 have h1:=classB_len h.name;have h2:=h.nums;have h3:=classB_len h.above.1;refine ⟨by omega,by omega,by omega,by omega,by omega,fun x hx=>?_,fun x hx=>?_,fun x hx=>(h.mths x hx).small⟩
 ·have:=classB_len (h.above.2 x hx);omega
 ·have:=h.flds x hx;unfold Fld.ok at this;rw [Bool.and_eq_true] at this;have h4:=memB_len this.1;have h5:=right_len this.2;omega
theorem Cls.Good.apart {c:Cls} (h:c.Good):c.sup ≠ c.name/\c.name ∉ c.like:=by
 have h1:=h.parts.2;unfold Cls.fine Cls.names at h1;simp only [Bool.and_eq_true,Bool.not_eq_true',List.any_eq_false,beq_iff_eq] at h1;have h2:=h1.1.2.2.1;exact ⟨fun e=>h2 c.sup List.mem_cons_self e,fun e=>h2 c.name (List.mem_cons_of_mem _ e) rfl⟩
def rawE (c:Cls):Ent:=⟨c,none,[]⟩
def enteredE (cs:List Cls) (k:Nat):List Ent:=startL++(cs.take k).map rawE
def allE0 (cs:List Cls):List Ent:=startL++cs.map rawE
def linkOne (cs:List Cls) (c:Cls):Ent:=⟨c,upE (allE0 cs) c.sup,likesE (allE0 cs) c.like⟩
def linkedE (cs:List Cls) (k:Nat):List Ent:=startL++((cs.take k).map (linkOne cs)++(cs.drop k).map rawE)
def newT (cs:List Cls):List Ent:=startL++cs.map (linkOne cs)
theorem enteredE_zero (cs:List Cls):enteredE cs 0=startL:=by simp [enteredE]
theorem enteredE_all (cs:List Cls):enteredE cs cs.length=allE0 cs:=by unfold enteredE allE0;rw [List.take_length]
theorem linkedE_zero (cs:List Cls):linkedE cs 0=allE0 cs:=by simp [linkedE,allE0]
theorem linkedE_all (cs:List Cls):linkedE cs cs.length=newT cs:=by unfold linkedE newT;rw [List.take_length,List.drop_length];simp
theorem enteredE_len (cs:List Cls) {k:Nat} (h:k<=cs.length):(enteredE cs k).length=8+k:=by unfold enteredE;rw [List.length_append,startL_len,List.length_map,List.length_take,Nat.min_eq_left h]
theorem newT_len (cs:List Cls):(newT cs).length=8+cs.length:=by unfold newT;rw [List.length_append,startL_len,List.length_map]
theorem linkedE_len (cs:List Cls) {k:Nat} (h:k<=cs.length):(linkedE cs k).length=8+cs.length:=by
 unfold linkedE;rw [List.length_append,startL_len,List.length_append,List.length_map,List.length_map,List.length_take,List.length_drop,Nat.min_eq_left h];omega
theorem enteredE_succ {cs:List Cls} {k:Nat} {c:Cls} (h:cs[k]? = some c):enteredE cs (k+1)=enteredE cs k++[rawE c]:=by
 unfold enteredE;rw [List.take_add_one,h,List.map_append,List.append_assoc];rfl
theorem linkedE_get {cs:List Cls} {k:Nat} {c:Cls} (h:cs[k]? = some c):(linkedE cs k)[8+k]? = some (rawE c):=by
 have hk:=(List.getElem?_eq_some_iff.1 h).1;unfold linkedE;have h1:((cs.take k).map (linkOne cs)).length=k:=by rw [List.length_map,List.length_take,Nat.min_eq_left (Nat.le_of_lt hk)]
 rw [List.getElem?_append_right (by rw [startL_len];omega),startL_len,List.getElem?_append_right (by rw [h1];omega),h1,show 8+k - 8 - k=0 by omega,List.getElem?_map,List.getElem?_drop,Nat.add_zero,h];rfl
theorem linkedE_succ {cs:List Cls} {k:Nat} {c:Cls} (h:cs[k]? = some c):(linkedE cs k).set (8+k) (linkOne cs c)=linkedE cs (k+1):=by
 have hk:=(List.getElem?_eq_some_iff.1 h).1;have h1:((cs.take k).map (linkOne cs)).length=k:=by rw [List.length_map,List.length_take,Nat.min_eq_left (Nat.le_of_lt hk)]
 unfold linkedE;rw [List.set_append_right _ _ (by rw [startL_len];omega),startL_len,List.set_append_right _ _ (by rw [h1];omega),h1,show 8+k - 8 - k=0 by omega];have h2:cs.drop k=c :: cs.drop (k+1):=by
  rw [List.drop_eq_getElem_cons hk];rw [(List.getElem?_eq_some_iff.1 h).2]
 rw [h2,List.map_cons,List.set_cons_zero,List.take_add_one,h,List.map_append];simp
theorem placeE_cls {es es':List Ent} (h:es.map Ent.cls=es'.map Ent.cls) (n:List UInt8):placeE es n=placeE es' n:=by
 have e:∀ es:List Ent,placeE es n=(es.map Ent.cls).findIdx? (fun c=>c.name == n):=fun es=>by unfold placeE;rw [List.findIdx?_map];rfl
 rw [e,e,h]
theorem get_cls {es es':List Ent} (h:es.map Ent.cls=es'.map Ent.cls) (i:Nat):(es[i]?).map Ent.cls=(es'[i]?).map Ent.cls:=by
 rw [←List.getElem?_map,←List.getElem?_map,h]
theorem itfAt_cls {es es':List Ent} (h:es.map Ent.cls=es'.map Ent.cls) (i:Nat):itfAt es i=itfAt es' i:=by
 have h1:=get_cls h i;unfold itfAt;cases h2:es[i]? <;> cases h3:es'[i]? <;> rw [h2,h3] at h1 <;> simp at h1
 all_goals first|rfl|(dsimp only;rw [h1])
theorem finAt_cls {es es':List Ent} (h:es.map Ent.cls=es'.map Ent.cls) (i:Nat):finAt es i=finAt es' i:=by
 have h1:=get_cls h i;unfold finAt;cases h2:es[i]? <;> cases h3:es'[i]? <;> rw [h2,h3] at h1 <;> simp at h1
 all_goals first|rfl|(dsimp only;rw [h1])
theorem upE_cls {es es':List Ent} (h:es.map Ent.cls=es'.map Ent.cls) (n:List UInt8):upE es n=upE es' n:=by
 unfold upE;rw [placeE_cls h];cases placeE es' n with
 | none=>rfl
 | some j=>dsimp only;rw [itfAt_cls h,finAt_cls h]
theorem likeE_cls {es es':List Ent} (h:es.map Ent.cls=es'.map Ent.cls) (n:List UInt8):likeE es n=likeE es' n:=by
 unfold likeE;rw [placeE_cls h];cases placeE es' n with
 | none=>rfl
 | some j=>dsimp only;rw [itfAt_cls h]
theorem likesE_cls {es es':List Ent} (h:es.map Ent.cls=es'.map Ent.cls) (l:List (List UInt8)):likesE es l=likesE es' l:=by
 unfold likesE;exact List.map_congr_left (fun n _=>by rw [likeE_cls h])
theorem likesOk_cls {es es':List Ent} (h:es.map Ent.cls=es'.map Ent.cls) (l:List (List UInt8)):likesOk es l=likesOk es' l:=by
 unfold likesOk
 congr 1
 funext n
 rw [likeE_cls h]
theorem linkedE_cls (cs:List Cls) (k:Nat):(linkedE cs k).map Ent.cls=(allE0 cs).map Ent.cls:=by
 unfold linkedE allE0;rw [List.map_append,List.map_append,List.map_append,List.map_map,List.map_map,List.map_map]
 congr 1
 conv=>rhs;rw [←List.take_append_drop k cs,List.map_append]
 rfl
theorem newT_cls (cs:List Cls):(newT cs).map Ent.cls=(allE0 cs).map Ent.cls:=by rw [←linkedE_all];exact linkedE_cls cs _
def Uniq (es:List Ent):Prop:=∀ (i:Nat) (e:Ent),es[i]? = some e->placeE es e.cls.name=some i
theorem startL_uniq:Uniq startL:=fun i e h=>by
 match i,h with
 | 0,h=>obtain rfl:=Option.some.inj h;decide
 | 1,h=>obtain rfl:=Option.some.inj h;decide
 | 2,h=>obtain rfl:=Option.some.inj h;decide
 | 3,h=>obtain rfl:=Option.some.inj h;decide
 | 4,h=>obtain rfl:=Option.some.inj h;decide
 | 5,h=>obtain rfl:=Option.some.inj h;decide
 | 6,h=>obtain rfl:=Option.some.inj h;decide
 | 7,h=>obtain rfl:=Option.some.inj h;decide
 | k+8,h=>rw [List.getElem?_eq_none (by rw [startL_len];omega)] at h;cases h
theorem Uniq.snoc {es:List Ent} (h:Uniq es) {e:Ent} (hn:placeE es e.cls.name=none):Uniq (es++[e]):=fun i x hx=>by
 rw [placeE_app];rcases Nat.lt_or_ge i es.length with h1|h1
 ·rw [List.getElem?_append_left h1] at hx;rw [h i x hx]
 ·have h2:i=es.length:=by
   have:=(List.getElem?_eq_some_iff.1 hx).1;rw [List.length_append] at this;simp at this
   omega
  subst h2;rw [List.getElem?_append_right (Nat.le_refl _),Nat.sub_self] at hx;obtain rfl:=Option.some.inj hx;rw [hn];simp
theorem enteredE_uniq {cs:List Cls} (hn:∀ k c,cs[k]? = some c->placeE (enteredE cs k) c.name=none):∀ k,k<=cs.length->Uniq (enteredE cs k)
 | 0,_=>by rw [enteredE_zero];exact startL_uniq
 | k+1,hk=>by
  have hc:cs[k]? = some cs[k]:=List.getElem?_eq_getElem (by omega);rw [enteredE_succ hc];exact (enteredE_uniq hn k (by omega)).snoc (hn k _ hc)
theorem Uniq.cls {es es':List Ent} (h:es.map Ent.cls=es'.map Ent.cls) (u:Uniq es'):Uniq es:=fun i e he=>by
 rw [placeE_cls h];have h1:=get_cls h i;rw [he] at h1;cases h2:es'[i]? with
 | none=>rw [h2] at h1;cases h1
 | some e'=>
  rw [h2] at h1;rw [Option.some.inj (show some e.cls=some e'.cls from h1)];exact u i e' h2
structure Lined (cs:List Cls):Prop where
 len:cs.length<=1000
 good:∀ c ∈ cs,c.Good
 names:∀ k c,cs[k]? = some c->placeE (enteredE cs k) c.name=none
 ups:∀ c ∈ cs,(upE (allE0 cs) c.sup).isSome=true
 likes:∀ c ∈ cs,likesOk (allE0 cs) c.like=true
theorem Lined.uniq {cs:List Cls} (h:Lined cs):Uniq (newT cs):=by
 refine Uniq.cls (newT_cls cs) ?_;rw [←enteredE_all];exact enteredE_uniq h.names _ (Nat.le_refl _)
theorem newT_at {cs:List Cls} {i:Nat} {e:Ent} (h:(newT cs)[i]? = some e):(i<8/\startL[i]? = some e)\/(8<=i/\∃ c,cs[i - 8]? = some c/\e=linkOne cs c):=by
 unfold newT at h;rcases Nat.lt_or_ge i 8 with h1|h1
 ·rw [List.getElem?_append_left (by rw [startL_len];exact h1)] at h;exact .inl ⟨h1,h⟩
 ·rw [List.getElem?_append_right (by rw [startL_len];exact h1),startL_len,List.getElem?_map] at h;obtain ⟨c,h2,h3⟩:=Option.map_eq_some_iff.1 h;exact .inr ⟨h1,c,h2,h3.symm⟩
theorem allE0_len (cs:List Cls):(allE0 cs).length=8+cs.length:=by unfold allE0;rw [List.length_append,startL_len,List.length_map]
theorem start_par:∀ i,i<8->∀ d ∈ parE startL i,d<2/\d ≠ i:=by decide
theorem parE_start {cs:List Cls} {i:Nat} (h:i<8):parE (newT cs) i=parE startL i:=by
 unfold parE newT;rw [List.getElem?_append_left (by rw [startL_len];exact h)]
theorem Lined.par {cs:List Cls} (h:Lined cs):ParIn (newT cs):=fun c d hd=>by
 rw [newT_len];cases he:(newT cs)[c]? with
 | none=>unfold parE at hd;rw [he] at hd;cases hd
 | some e=>
  rcases newT_at he with ⟨h1,h2⟩|⟨h1,x,h2,rfl⟩
  ·rw [parE_start h1] at hd;have:=(start_par c h1 d hd).1;omega
  ·rw [parE_eq he] at hd;unfold Ent.par linkOne at hd;have hx:=List.mem_of_getElem? h2;rcases List.mem_append.1 hd with h3|h3
   ·have h4:upE (allE0 cs) x.sup=some d:=by simpa using h3
    have:=(upE_lt h4).2;rw [allE0_len] at this;exact this
   ·have:=likesE_lt (h.likes x hx) d h3;rw [allE0_len] at this;exact this
theorem placeE_name {es:List Ent} {n:List UInt8} {i:Nat} (h:placeE es n=some i):∃ e,es[i]? = some e/\e.cls.name=n:=by
 unfold placeE at h;obtain ⟨h1,h2,_⟩:=List.findIdx?_eq_some_iff_getElem.1 h;exact ⟨es[i],List.getElem?_eq_getElem h1,by simpa using h2⟩
theorem likeE_place {es:List Ent} {n:List UInt8} {j:Nat} (h:likeE es n=some j):placeE es n=some j/\itfAt es j=true:=by
 unfold likeE at h;cases hp:placeE es n with
 | none=>rw [hp] at h;cases h
 | some i=>
  rw [hp] at h;dsimp only at h;split at h
  ·rename_i hi
   obtain rfl:=Option.some.inj h;exact ⟨rfl,hi⟩
  ·cases h
theorem Lined.self {cs:List Cls} (h:Lined cs) (c:Nat):c ∉ parE (newT cs) c:=fun hd=>by
 cases he:(newT cs)[c]? with
 | none=>unfold parE at hd;rw [he] at hd;cases hd
 | some e=>
  rcases newT_at he with ⟨h1,h2⟩|⟨h1,x,h2,rfl⟩
  ·rw [parE_start h1] at hd;exact (start_par c h1 c hd).2 rfl
  ·rw [parE_eq he] at hd;unfold Ent.par linkOne at hd;have hx:=List.mem_of_getElem? h2;have hap:=(h.good x hx).apart;have key:∀ n,placeE (allE0 cs) n=some c->x.name=n:=fun n hp=>by
    rw [←placeE_cls (newT_cls cs)] at hp;obtain ⟨e2,h5,h6⟩:=placeE_name hp;rw [he] at h5;obtain rfl:=Option.some.inj h5;exact h6
   rcases List.mem_append.1 hd with h3|h3
   ·have h4:upE (allE0 cs) x.sup=some c:=by simpa using h3
    exact hap.1 (key _ (upE_lt h4).1).symm
   ·obtain ⟨n,hn1,hn2⟩:=List.mem_map.1 (show c ∈ x.like.map fun n=>(likeE (allE0 cs) n).getD 0 from h3);have h5:=List.all_eq_true.1 (h.likes x hx) n hn1;obtain ⟨j,hj⟩:=Option.isSome_iff_exists.1 h5;rw [hj] at hn2;obtain rfl:j=c:=hn2;exact hap.2 ((key _ (likeE_place hj).1) ▸ hn1)
theorem start_small:∀ e ∈ startL,e.cls.name.length<=32/\e.cls.flds.length<=32/\e.cls.mths.length<=32/\e.lk.length<=32:=by
 have h:startL.all (fun e=>decide (e.cls.name.length<=32/\e.cls.flds.length<=32/\e.cls.mths.length<=32/\e.lk.length<=32))=true:=by decide
 exact fun e he=>of_decide_eq_true (List.all_eq_true.1 h e he)
theorem Lined.small {cs:List Cls} (h:Lined cs) (i:Nat) (e:Ent) (he:(newT cs)[i]? = some e):e.cls.name.length<=32/\e.cls.flds.length<=32/\e.cls.mths.length<=32/\e.lk.length<=32:=by
 rcases newT_at he with ⟨h1,h2⟩|⟨h1,x,h2,rfl⟩
 ·exact start_small e (List.mem_of_getElem? h2)
 ·have hg:=h.good x (List.mem_of_getElem? h2);have h3:=classB_len hg.name;have h4:=hg.nums;refine ⟨h3,h4.2.1,h4.2.2,?_⟩;show (likesE (allE0 cs) x.like).length<=32
  unfold likesE;rw [List.length_map];exact h4.1
theorem Lined.shape {cs:List Cls} (h:Lined cs) (ha:Acyc (newT cs)):Shape (newT cs):=
 ha.shape h.par (by rw [newT_len];have:=h.len;omega) (fun i e he=>by have:=(h.small i e he).2.2.2;omega) (fun i e he=>(h.small i e he).2.1) (fun i e he=>(h.small i e he).1)
theorem added_walk (B:Nat->Nat) (F:Nat) (caps:Array Value) (x:Nat) (Y N:World->Prop) (w:World) (he:∀ args w,(callFunc F args).run Tryz.prog w=.ok (.enter F args) w)
  (h:Calls Tryz.prog F (#[entV B x]++caps) w (YesNo Y (fun w1=>
   Calls Tryz.prog 130 #[.pointer (some ⟨B x,0,none⟩),.map (some w1.heap.size),.func (.func F) #[] caps] (w1.alloc (.map #[] 0)) (YesNo Y N)))) :
  Calls Tryz.prog 190 #[.pointer (some ⟨B x,0,none⟩),.func (.func F) #[] caps] w (YesNo Y N):=by
 have hmm:=@run_makeMap Tryz.prog;have H:=Hd h;clear h;go_enter Tryz.func190,Tryz.ntmps190
 go_wp2_with fail
 refine H.out.mono ?_;rintro e1 w3 ⟨b,rfl,hy,hno⟩;have HY:=Hd hy;have HNO:=Hd hno;clear hy hno H;cases b
 ·have HK:=Hd (HNO.out rfl);clear HY HNO
  go_wp2_with fail
  refine HK.out.mono ?_;rintro e1 w4 ⟨b,rfl,hy,hno⟩;have HY:=Hd hy;have HNO:=Hd hno;clear hy hno HK;cases b
  ·have HK:=Hd (HNO.out rfl);clear HY HNO;go_wp2;go_ret;exact ⟨false,rfl,(fun h=>by cases h),fun _=>HK.out⟩
  ·have HK:=Hd (HY.out rfl);clear HY HNO;go_wp2;go_ret;exact ⟨true,rfl,fun _=>HK.out,(fun h=>by cases h)⟩
 ·have HK:=Hd (HY.out rfl);clear HY HNO;go_wp2;go_ret;exact ⟨true,rfl,fun _=>HK.out,(fun h=>by cases h)⟩
def addedE (es:List Ent) (x:Nat):List Nat:=x :: vis es es.length [] (lkOf es x)
theorem added_any {A:Nat->Prop} {B:Nat->Nat} {T mb:Nat} {es:List Ent} {w0:World} (hT:Tab A w0 T mb B es) (hS:Shape es) (F:Nat) (caps:Array Value)
  (he:∀ args w,(callFunc F args).run Tryz.prog w=.ok (.enter F args) w) (lo x:Nat) (hx:x<es.length) (J K:Nat->World->Prop) (w:World) (hsz:∀ k w',J k w'->lo<=w'.heap.size)
  (hJ:∀ k w',J k w'->Below w0.heap.size w0 w') (hJs:StaysJ lo J) (hF:StepsO B F caps lo (addedE es x) J K) (h0:J 0 w) :
  Calls Tryz.prog 190 #[.pointer (some ⟨B x,0,none⟩),.func (.func F) #[] caps] w (YesNo (fun w'=>∃ k,k<(addedE es x).length/\K k w') (J (addedE es x).length)):=by
 obtain ⟨e,hex⟩:∃ e,es[x]? = some e:=⟨_,List.getElem?_eq_getElem hx⟩
 have hlk:lkOf es x=e.lk:=lkOf_eq hex;refine added_walk B F caps x _ _ w he ?_;refine (hF 0 x w rfl h0).mono fun e1 w1 q=>q.1.mono' (fun h=>⟨0,Nat.succ_pos _,h⟩) (fun h1=>?_)
 have hm:Met (w1.alloc (.map #[] 0)) w1.heap.size []:=Met.new w1;have hl1:=hsz 1 w1 h1;unfold addedE at hF ⊢;rw [hlk] at hF ⊢;refine (ifs_any hT hS.len hS.lk F caps he lo w1.heap.size hl1 es.length x e [] (fun k=>J (k+1)) (fun k=>K (k+1)) _ hex (hS.deep x e hex) .nil (fun y hy=>by cases hy) (fun k w' h=>hJ _ w' h) (fun k a b h1 h2=>hJs _ a b h1 h2)
  (fun k y w' hy hj=>hF (k+1) y w' (by rw [List.getElem?_cons_succ];exact hy) hj) (hJs 1 _ _ h1 ((Only.refl _ w1).alloc _)) hm).mono fun e2 w2 q=>q.mono' (fun ⟨k,hk,h⟩=>⟨k+1,by rw [List.length_cons];omega,h⟩) (fun h=>?_)
 rw [List.length_cons];exact h.1
theorem added_pure {A:Nat->Prop} {B:Nat->Nat} {T mb:Nat} {es:List Ent} {w0:World} (hT:Tab A w0 T mb B es) (hS:Shape es) (F:Nat) (caps:Array Value) (he:∀ args w,(callFunc F args).run Tryz.prog w=.ok (.enter F args) w)
  (x:Nat) (hx:x<es.length) (p:Nat->Bool) (w:World) (hw:Below w0.heap.size w0 w) (hF:∀ y w',y ∈ addedE es x->Below w.heap.size w w'->Calls Tryz.prog F (#[entV B y]++caps) w' (Said (p y) w')) :
  Calls Tryz.prog 190 #[.pointer (some ⟨B x,0,none⟩),.func (.func F) #[] caps] w (Said ((addedE es x).any p) w):=by
 refine (added_any hT hS F caps he w.heap.size x hx (fun k w'=>Below w.heap.size w w'/\((addedE es x).take k).any p=false) (fun _ w'=>Below w.heap.size w w'/\(addedE es x).any p=true) w (fun k w' h=>h.1.size)
  (fun k w' h=>hw.trans (h.1.mono hw.size)) (fun k w1 w2 h ho=>⟨h.1.trans (Only.below ho h.1.size (fun i hi=>hi)),h.2⟩) (fun k y w' hy hj=>?_) ⟨Below.refl _ _,by simp⟩).mono fun e w' q=>?_
 ·refine (hF y w' (List.mem_of_getElem? hy) hj.1).mono fun e w'' ⟨h1,h2⟩=>?_
  have hb:=hj.1.trans (h2.mono hj.1.size);refine ⟨⟨p y,h1,fun hp=>⟨hb,List.any_eq_true.2 ⟨y,List.mem_of_getElem? hy,hp⟩⟩,fun hp=>⟨hb,?_⟩⟩,Only.ofBelow h2⟩;rw [take_any_succ p _ k y hy,hj.2,hp];rfl
 ·obtain ⟨b,h1,h2,h3⟩:=q;cases b with
  | true=>
   obtain ⟨_,_,h4,h5⟩:=h2 rfl;exact ⟨by rw [h5];exact h1,h4⟩
  | false=>
   obtain ⟨h4,h5⟩:=h3 rfl;rw [List.take_length] at h5;exact ⟨by rw [h5];exact h1,h4⟩
end Go.Proofs.YtpincofjopmaaaaGreatDoor
