/- laws -/
import Derived.Test.YtegljjbclladdaaGreatDoorK25
set_option maxRecDepth 100000
set_option maxHeartbeats 16000000
namespace Go.Proofs.YtegljjbclladdaaGreatDoor
open Go.RowKit Tryz
def ZaJ (m:Mth):List UInt8:=[40]++(Lib.join m.params [44]++([41]++m.res))
def Mth.brief (m:Mth):Prop:=(Lib.join m.params [44]).length<=70368744177664/\m.res.length<=70368744177664/\m.params.length<=70368744177664
theorem Ztf (l:List (List UInt8)):(l.map S).map (·.data.toList)=l:=by
 rw[Yb1]
 conv=>rhs;rw[←List.map_id l]
 exact Ycj (fun x _=>rfl)
theorem ZqJ {A:Nat->Prop}{w:World}{c:Option Addr}{a:Nat}(l:List (List UInt8))(q:Src 1 StrR A w (.slice c l.length a) l)(C:(Lib.join l [44]).length<=70368744177664)(y:l.length<=70368744177664) :
  Calls prog 205 #[.slice c l.length a,.string ⟨#[44]⟩] w fun e w'=>e=.returned (.string (S (Lib.join l [44])))/\Below w.heap.size w w':=by
 rcases q with⟨B,r,d,rfl⟩|⟨b,o,t,d,⟨_,i,p,_⟩,h⟩
 ·exact(strings_Join_none c a ⟨#[44]⟩ w).mono fun e w' ⟨k,n⟩=>⟨k,n▸Yab _ _⟩
 ·simp at d;obtain⟨rfl,rfl⟩:=d;have s:=strings_Join b o a (l.map S) ⟨#[44]⟩ w (fun z x g=>by
   rw[Yav,YaO]at g;obtain⟨D,j,rfl⟩:=g;obtain⟨v,m,_,f⟩:=h z D j;obtain rfl:=m;have u:=f 0 _ rfl;rw[YaH]at u;exact u) i (by rw[YaB];omega) (by rw[YaB];exact p) (by rw[Ztf];show(Lib.join l [44]).length<=_;omega)
  rw[Ztf,YaB]at s;exact s
theorem ZeB {A:Nat->Prop}(m:Mth)(v:Value)(w:World)(J:MthR A w m v)(f:m.brief) :
  Calls prog 155 #[v] w (Zcc (ZaJ m) w):=by
 obtain⟨X,V,U,rfl,u,s,r⟩:=J;obtain⟨c,b,rfl⟩:=u.shape;obtain⟨k,i,rfl⟩:=s.shape;obtain⟨h,j,rfl⟩:=r.shape;have g:Below w.heap.size w (w.alloc (.cells #[.string (S m.name),.slice c m.params.length b,.string (S m.res),.bool m.abs,.int .i64 m.loc,.slice k m.code.length i,.slice h m.cats.length j] 26)):=(Yab _ w).alloc (Yad _) _;have d:=Hd g;have a:=Hd (Box.new w #[.string (S m.name),.slice c m.params.length b,.string (S m.res),.bool m.abs,.int .i64 m.loc,.slice k m.code.length i,.slice h m.cats.length j] 26);have p:Hid (∀W,Below (w.alloc (.cells #[.string (S m.name),.slice c m.params.length b,.string (S m.res),.bool m.abs,.int .i64 m.loc,.slice k m.code.length i,.slice h m.cats.length j] 26)).heap.size (w.alloc (.cells #[.string (S m.name),.slice c m.params.length b,.string (S m.res),.bool m.abs,.int .i64 m.loc,.slice k m.code.length i,.slice h m.cats.length j] 26)) W->Calls prog 205 #[.slice c m.params.length b,.string ⟨#[44]⟩] W fun e w'=>e=.returned (.string (S (Lib.join m.params [44])))/\Below W.heap.size W w'):=Hd (fun W n=>ZqJ m.params (StrR.st.below (StrR.st.below u g) n) f.1 f.2.2);have l:S (ZaJ m)=S [40]++S (Lib.join m.params [44])++S [41]++S m.res:=by unfold ZaJ;rw[Zcy,Zcy,Zcy];congr 1;simp
 have N:(S (Lib.join m.params [44])).size<=70368744177664:=by rw[Zat];exact f.1
 have L:(S m.res).size<=70368744177664:=by rw[Zat];exact f.2.1
 clear u s r g f;obtain⟨R,t⟩:∃R,R=S (ZaJ m):=⟨_,rfl⟩
 unfold Zcc;rw[←t];rw[←t]at l;generalize S (Lib.join m.params [44])=z at p N l;have C:=Hd l;clear l t;obtain⟨name,params,res,G,loc,code,cats⟩:=m;dsimp only at *;generalize S res=q at d a p C L⊢;generalize params.length=y at *;generalize code.length=K at *;generalize cats.length=I at *;go_enter func155,ntmps155
 go_upto_region 1 with fail;generalize w.alloc (.cells #[.string (S name),.slice c y b,.string q,.bool G,.int .i64 loc,.slice k K i,.slice h I j] 26)=x at d a p⊢;obtain⟨B,E⟩:∃B,B=w.heap.size:=⟨_,rfl⟩
 rw[←E]at a⊢;clear E;have F:Hid (∀W,Below x.heap.size x W->W.cell? ⟨B,1,none⟩=some (.slice c y b)/\W.cell? ⟨B,2,none⟩=some (.string q)):=Hd (fun W n=>⟨(a.o.below n).cell 1 rfl,(a.o.below n).cell 2 rfl⟩);obtain⟨Y,O⟩:=F.o _ (Yab _ x);have P:¬(9223372036854775807<1+z.size):=by omega
 have T:¬(9223372036854775807<1+z.size+1):=by omega
 have Q:¬(9223372036854775807<1+z.size+1+q.size):=by omega
 first
 |(go_region_held (fun W=>W.cell? ⟨B,1,none⟩=some (.slice c y b)/\W.cell? ⟨B,2,none⟩=some (.string q)) ((refine F.o _ ?_;(with_reducible repeat (first|exact Yab _ _|(apply Zae;rotate_left;assumption)|refine Zab ?_))))
   (first|((with_reducible refine(p.o _ ?_).mono ?_);(focus ((with_reducible repeat (first|exact Yab _ _|(apply Zae;rotate_left;assumption)|refine Zab ?_));done));rintro e H⟨rfl,M⟩)))
 |fail
 have D:Below w.heap.size w H:=d.o.trans (YbP (by(with_reducible repeat (first|exact M|(apply Zae;rotate_left;assumption)|exact Yab _ _|refine Zab ?_))) d.o.size);go_wp2;go_ret;exact⟨by rw[C.o];rfl,D⟩
theorem Zoz (l:List (List UInt8))(k:Nat)(x:List UInt8)(a:l[k]?=some x):Lib.join (l.take (k+1)) [44]=Lib.join (l.take k) [44]++((if k=0 then[]else[44])++x):=by
 cases l with
 |nil=>simp at a
 |cons d c=>
  cases k with
  |zero=>simp at a;subst a;simp[Lib.join_one,Lib.join_nil]
  |succ k=>
   have b:c[k]?=some x:=by simpa using a
   rw[List.take_succ_cons,List.take_succ_cons,Lib.join_cons,Lib.join_cons,Lib.joinTail_take_succ _ _ _ _ b,Yar (by omega)];simp
theorem Zfk (l:List (List UInt8))(k:Nat):(Lib.join (l.take k) [44]).length<=(Lib.join l [44]).length:=by
 cases l with
 |nil=>simp[Lib.join_nil]
 |cons b a=>
  cases k with
  |zero=>simp[Lib.join_nil]
  |succ k=>
   rw[List.take_succ_cons,Lib.join_cons,Lib.join_cons,Yal,Yal];have:=Lib.joinTail_take_le [44] a k;omega
theorem Zgp {A:Nat->Prop}(m:Mth)(v:Value)(w:World)(K:MthR A w m v)(p:m.brief) :
  Calls prog 97 #[v] w (Zcc (ZaJ m) w):=by
 obtain⟨ar,aq,ao,rfl,H,C,z⟩:=K;obtain⟨O,J,rfl⟩:=H.shape;obtain⟨T,L,rfl⟩:=C.shape;obtain⟨I,N,rfl⟩:=z.shape;have g:Below w.heap.size w (w.alloc (.cells #[.string (S m.name),.slice O m.params.length J,.string (S m.res),.bool m.abs,.int .i64 m.loc,.slice T m.code.length L,.slice I m.cats.length N] 26)):=(Yab _ w).alloc (Yad _) _;have f:=Hd g;have c:=Hd (Box.new w #[.string (S m.name),.slice O m.params.length J,.string (S m.res),.bool m.abs,.int .i64 m.loc,.slice T m.code.length L,.slice I m.cats.length N] 26);have s:=Hd (Src.elem (StrR.st.below H g));have aa:m.params.length<=70368744177664:=p.2.2;have V:=Hd p.1;have af:(S m.res).size<=70368744177664:=by rw[Zat];exact p.2.1
 have P:S (ZaJ m)=S ([40]++Lib.join m.params [44])++S [41]++S m.res:=by unfold ZaJ;rw[Zcy,Zcy];congr 1;simp
 obtain⟨R,G⟩:∃R,R=S (ZaJ m):=⟨_,rfl⟩
 unfold Zcc;rw[←G];rw[←G]at P;have F:=Hd P;clear P G H C z g p;obtain⟨n,M⟩:∃n,n=m.params.length:=⟨_,rfl⟩
 have D:=Hd M;simp only[←M]at f c s aa⊢;clear M;obtain⟨name,params,res,ac,loc,code,cats⟩:=m;dsimp only at *;generalize S res=ae at f c s F af⊢;go_enter func97,ntmps97;go_wp2;generalize w.alloc (.cells #[.string (S name),.slice O n J,.string ae,.bool ac,.int .i64 loc,.slice T code.length L,.slice I cats.length N] 26)=ad at f c s⊢;obtain⟨B,X⟩:∃B,B=w.heap.size:=⟨_,rfl⟩
 rw[←X]at c⊢;clear X;have ap:=c.o.cell 1 rfl;go_loop [3,4] (fun ag U=>∃k:Nat,k<=n/\U=.int .i64 k/\ag=.string (S ([40]++Lib.join (params.take k) [44]))) (fun _ U=>n-(intOf U).toNat)
 case atStart=>exact⟨0,Yao _,rfl,rfl⟩
 case round=>
  obtain⟨k,al,rfl,rfl⟩:=hrel;by_cases ai:k<n
  ·have i:k<params.length:=by have:=D.o;omega
   obtain⟨x,r⟩:∃x,params[k]?=some x:=⟨_,Yaa i⟩
   obtain⟨b,o,v,rfl,K,t,l⟩:=s.o k x r;obtain rfl:=K;have Q:ad.cell? ⟨b,o+k,none⟩=some (.string (S x)):=by have aj:=l 0 _ rfl;rw[YaH]at aj;exact aj
   have d:=Zoz params k x r;have u:=Zfk params k;have j:=Zfk params (k+1);rw[d,Yal,Yal]at j;have y:=V.o;have q:(S ([40]++Lib.join (params.take k) [44])).size<=70368744177665:=by rw[Zat,Yal];simp;omega
   have W:(S x).size<=70368744177664:=by rw[Zat];omega
   have ah:(0:Int)<=k:=by omega
   have Z:(k:Int)<(n:Int):=by omega
   by_cases E:k=0
   ·subst E;have h:S ([40]++Lib.join (params.take (0+1)) [44])=S ([40]++Lib.join (params.take 0) [44])++S x:=by rw[d,Zcy];exact Ya8 S (by simp)
    have a:=Hd h;clear r i l t d u j y h;generalize S ([40]++Lib.join (params.take 0) [44])=Y at a q⊢;generalize S x=ab at a W Q;rw[YbO]at Q;go_wp2;go_round
    case rel=>exact⟨0+1,by omega,by go_num,by rw[a.o]⟩
    case measure=>simp[intOf];omega
   ·have ak:(0:Int)<(k:Int):=by omega
    have h:S ([40]++Lib.join (params.take (k+1)) [44])=S ([40]++Lib.join (params.take k) [44])++S [44]++S x:=by rw[d,Zcy,Zcy,Yar E];exact Ya8 S (by simp)
    have a:=Hd h;clear r i l t d u j y h E;generalize S ([40]++Lib.join (params.take k) [44])=Y at a q⊢;generalize S x=ab at a W Q;go_wp2;go_round
    case rel=>exact⟨k+1,by omega,by go_num,by rw[a.o];rfl⟩
    case measure=>simp[intOf];omega
  ·obtain rfl:n=k:=by omega
   rw[D.o,Yaz (Yad _)];have am:=c.o.cell 2 rfl;have q:(S ([40]++Lib.join params [44])).size<=70368744177665:=by have:=V.o;rw[Zat,Yal];simp;omega
   have Z:¬((n:Int)<(n:Int)):=by omega
   generalize S ([40]++Lib.join params [44])=Y at F q⊢;rw[←D.o];go_wp2;go_ret;exact⟨by rw[F.o];rfl,f.o⟩
end Go.Proofs.YtegljjbclladdaaGreatDoor
namespace Go.Proofs.YtegljjbclladdaaGreatDoor
theorem ZsK (l:List (List UInt8))(n:Nat)(c:∀x∈l,x.length<=n):(Lib.joinTail [44] l).length<=l.length*(n+1):=by
 induction l with
 |nil=>simp[Lib.joinTail]
 |cons x l a=>
  have d:=c x Yam;have f:=a (fun g b=>c g (Yau _ b));have e:Lib.joinTail [44] (x::l)=44::(x++Lib.joinTail [44] l):=by simp[Lib.joinTail]
  rw[e,YaI,Yal,YaI,Nat.add_mul];omega
theorem Mth.Good.brief {m:Mth}(h:m.Good):m.brief:=by
 have d:=h.nums.1;have j:=h.res_len;have c:∀x∈m.params,x.length<=38:=fun x g=>Zdy (h.params x g);have l:(Lib.join m.params [44]).length<=2000:=by
  cases f:m.params with
  |nil=>rw[Lib.join_nil];simp
  |cons x k=>
   rw[f]at d c;have a:=c x Yam;have b:=ZsK k 38 (fun n i=>c n (Yau _ i));rw[YaI]at d;rw[Lib.join_cons,Yal];omega
 exact⟨by omega,by omega,by omega⟩
end Go.Proofs.YtegljjbclladdaaGreatDoor
namespace Go.Proofs.YtegljjbclladdaaGreatDoor
open Go.RowKit Tryz
theorem Zpi:∀k,k<42->(ZaB k).length<=6:=by decide
theorem Mth.Good.small {m:Mth}(c:m.Good):m.Small:=by
 have l:=ZhF c.name;have p:=c.res_len;have i:=c.nums;have d:m.abs=true->m.code.length=0/\m.cats.length=0:=fun b=>by
  have:=c.body;unfold Mth.body at this;rw[b]at this;simp only[if_true,Yaw,YaP]at this;exact this.2
 refine⟨by omega,by omega,by omega,by omega,by omega,fun x a=>?_,fun x a=>?_,fun x a=>?_⟩
 ·have:=Zdy (c.params x a);omega
 ·cases b:m.abs with
  |true=>rw[Ya0.1 (d b).1]at a;cases a
  |false=>
   obtain⟨_,h,_,_⟩:=c.real b;obtain⟨g,_,n⟩:=Zn6 (h x a) (c.held.2.1 x a);have j:=(ZhB g).1;have f:=(ZhB g).2.1;have:=Zpi _ j;rw[f]at this;exact⟨by omega,by omega⟩
 ·cases b:m.abs with
  |true=>rw[Ya0.1 (d b).2]at a;cases a
  |false=>
   obtain⟨_,_,k,_⟩:=c.real b;have:=Zdm (Zqi (k x a) i.2.2.1).2.2.2;omega
theorem Cls.Good.small {c:Cls}(b:c.Good):c.Small:=by
 have d:=Zdm b.name;have h:=b.nums;have f:=Zdm b.above.1;refine⟨by omega,by omega,by omega,by omega,by omega,fun x a=>?_,fun x a=>?_,fun x a=>(b.mths x a).small⟩
 ·have:=Zdm (b.above.2 x a);omega
 ·have:=b.flds x a;unfold Fld.ok at this;rw[Yaw]at this;have i:=ZhF this.1;have g:=Zdy this.2;omega
theorem Cls.Good.apart {c:Cls}(d:c.Good):c.sup≠c.name/\c.name ∉ c.like:=by
 have a:=d.parts.2;unfold Cls.fine Cls.names at a;simp only[Yaw,Ybj,YaW,beq_iff_eq]at a;have b:=a.1.2.2.1;exact⟨fun e=>b c.sup Yam e,fun e=>b c.name (Yau _ e) rfl⟩
def rawE (c:Cls):Ent:=⟨c,none,[]⟩
def Zav (cs:List Cls)(k:Nat):List Ent:=startL++(cs.take k).map rawE
def Zar (cs:List Cls):List Ent:=startL++cs.map rawE
def Zdg (cs:List Cls)(c:Cls):Ent:=⟨c,upE (Zar cs) c.sup,ZbI (Zar cs) c.like⟩
def Zbl (cs:List Cls)(k:Nat):List Ent:=startL++((cs.take k).map (Zdg cs)++(cs.drop k).map rawE)
def newT (cs:List Cls):List Ent:=startL++cs.map (Zdg cs)
theorem ZeE (cs:List Cls):Zav cs 0=startL:=by simp[Zav]
theorem Zc8 (cs:List Cls):Zav cs cs.length=Zar cs:=by unfold Zav Zar;rw[YaE]
theorem ZiT (cs:List Cls):Zbl cs 0=Zar cs:=by simp[Zbl,Zar]
theorem Zf9 (cs:List Cls):Zbl cs cs.length=newT cs:=by unfold Zbl newT;rw[YaE,List.drop_length];simp
theorem Ziv (cs:List Cls){k:Nat}(a:k<=cs.length):(Zav cs k).length=8+k:=by unfold Zav;rw[Yal,ZaF,YaB,YaA,Ybe a]
theorem ZaX (cs:List Cls):(newT cs).length=8+cs.length:=by unfold newT;rw[Yal,ZaF,YaB]
theorem Zeq (cs:List Cls){k:Nat}(a:k<=cs.length):(Zbl cs k).length=8+cs.length:=by
 unfold Zbl;rw[Yal,ZaF,Yal,YaB,YaB,YaA,Ybr,Ybe a];omega
theorem ZeD {cs:List Cls}{k:Nat}{c:Cls}(a:cs[k]?=some c):Zav cs (k+1)=Zav cs k++[rawE c]:=by
 unfold Zav;rw[YaK,a,Ya9,YaY];rfl
theorem Zj4 {cs:List Cls}{k:Nat}{c:Cls}(d:cs[k]?=some c):(Zbl cs k)[8+k]?=some (rawE c):=by
 have b:=(Yag.1 d).1;unfold Zbl;have a:((cs.take k).map (Zdg cs)).length=k:=by rw[YaB,YaA,Ybe (Nat.le_of_lt b)]
 rw[YaJ (by rw[ZaF];omega),ZaF,YaJ (by rw[a];omega),a,show 8+k-8-k=0 by omega,Yav,Ybo,YbO,d];rfl
theorem ZiS {cs:List Cls}{k:Nat}{c:Cls}(f:cs[k]?=some c):(Zbl cs k).set (8+k) (Zdg cs c)=Zbl cs (k+1):=by
 have a:=(Yag.1 f).1;have b:((cs.take k).map (Zdg cs)).length=k:=by rw[YaB,YaA,Ybe (Nat.le_of_lt a)]
 unfold Zbl;rw[Ycw _ _ (by rw[ZaF];omega),ZaF,Ycw _ _ (by rw[b];omega),b,show 8+k-8-k=0 by omega];have d:cs.drop k=c::cs.drop (k+1):=by
  rw[YbJ a];rw[(Yag.1 f).2]
 rw[d,YbI,Ybu,YaK,f,Ya9];simp
theorem ZbB {es a:List Ent}(b:es.map Ent.cls=a.map Ent.cls)(n:List UInt8):Zad es n=Zad a n:=by
 have e:∀es:List Ent,Zad es n=(es.map Ent.cls).findIdx? (fun c=>c.name==n):=fun es=>by unfold Zad;rw[List.findIdx?_map];rfl
 rw[e,e,b]
theorem ZjW {es a:List Ent}(b:es.map Ent.cls=a.map Ent.cls)(i:Nat):(es[i]?).map Ent.cls=(a[i]?).map Ent.cls:=by
 rw[←Yav,←Yav,b]
theorem ZeK {es a:List Ent}(f:es.map Ent.cls=a.map Ent.cls)(i:Nat):ZcB es i=ZcB a i:=by
 have b:=ZjW f i;unfold ZcB;cases d:es[i]?<;>cases c:a[i]?<;>rw[d,c]at b<;>simp at b
 all_goals first|rfl|(dsimp only;rw[b])
theorem Zn5 {es a:List Ent}(f:es.map Ent.cls=a.map Ent.cls)(i:Nat):ZfV es i=ZfV a i:=by
 have b:=ZjW f i;unfold ZfV;cases d:es[i]?<;>cases c:a[i]?<;>rw[d,c]at b<;>simp at b
 all_goals first|rfl|(dsimp only;rw[b])
theorem ZpU {es a:List Ent}(b:es.map Ent.cls=a.map Ent.cls)(n:List UInt8):upE es n=upE a n:=by
 unfold upE;rw[ZbB b];cases Zad a n with
 |none=>rfl
 |some c=>dsimp only;rw[ZeK b,Zn5 b]
theorem ZiP {es a:List Ent}(b:es.map Ent.cls=a.map Ent.cls)(n:List UInt8):Zcp es n=Zcp a n:=by
 unfold Zcp;rw[ZbB b];cases Zad a n with
 |none=>rfl
 |some c=>dsimp only;rw[ZeK b]
theorem Zl2 {es a:List Ent}(b:es.map Ent.cls=a.map Ent.cls)(l:List (List UInt8)):ZbI es l=ZbI a l:=by
 unfold ZbI;exact Ycj (fun n _=>by rw[ZiP b])
theorem Zf6 {es a:List Ent}(b:es.map Ent.cls=a.map Ent.cls)(l:List (List UInt8)):ZaH es l=ZaH a l:=by
 unfold ZaH
 congr 1
 funext n
 rw[ZiP b]
theorem Zga (cs:List Cls)(k:Nat):(Zbl cs k).map Ent.cls=(Zar cs).map Ent.cls:=by
 unfold Zbl Zar;rw[Ya9,Ya9,Ya9,Yb1,Yb1,Yb1]
 congr 1
 conv=>rhs;rw[←Ya5 k cs,Ya9]
 rfl
theorem Zcj (cs:List Cls):(newT cs).map Ent.cls=(Zar cs).map Ent.cls:=by rw[←Zf9];exact Zga cs _
def Uniq (es:List Ent):Prop:=∀(i:Nat) (e:Ent),es[i]?=some e->Zad es e.cls.name=some i
theorem Zky:Uniq startL:=fun i e h=>by
 match i,h with
 |0,h=>obtain rfl:=Yac h;decide
 |1,h=>obtain rfl:=Yac h;decide
 |2,h=>obtain rfl:=Yac h;decide
 |3,h=>obtain rfl:=Yac h;decide
 |4,h=>obtain rfl:=Yac h;decide
 |5,h=>obtain rfl:=Yac h;decide
 |6,h=>obtain rfl:=Yac h;decide
 |7,h=>obtain rfl:=Yac h;decide
 |k+8,h=>rw[YaS (by rw[ZaF];omega)]at h;cases h
theorem Uniq.snoc {es:List Ent}(f:Uniq es){e:Ent}(d:Zad es e.cls.name=none):Uniq (es++[e]):=fun i x a=>by
 rw[Zdw];rcases YaC i es.length with b|b
 ·rw[YaR b]at a;rw[f i x a]
 ·have c:i=es.length:=by
   have:=(Yag.1 a).1;rw[Yal]at this;simp at this;omega
  subst c;rw[YaJ (Yad _),Ycz]at a;obtain rfl:=Yac a;rw[d];simp
theorem ZcA {cs:List Cls}(b:∀k c,cs[k]?=some c->Zad (Zav cs k) c.name=none):∀k,k<=cs.length->Uniq (Zav cs k)
 |0,_=>by rw[ZeE];exact Zky
 |k+1,d=>by
  have a:cs[k]?=some cs[k]:=Yaa (by omega);rw[ZeD a];exact(ZcA b k (by omega)).snoc (b k _ a)
theorem Uniq.cls {es b:List Ent}(g:es.map Ent.cls=b.map Ent.cls)(u:Uniq b):Uniq es:=fun i e f=>by
 rw[ZbB g];have a:=ZjW g i;rw[f]at a;cases c:b[i]? with
 |none=>rw[c]at a;cases a
 |some d=>
  rw[c]at a;rw[Yac (show some e.cls=some d.cls from a)];exact u i d c
structure Lined (cs:List Cls):Prop where
 len:cs.length<=1000
 good:∀c∈cs,c.Good
 names:∀k c,cs[k]?=some c->Zad (Zav cs k) c.name=none
 ups:∀c∈cs,(upE (Zar cs) c.sup).isSome=true
 likes:∀c∈cs,ZaH (Zar cs) c.like=true
theorem Lined.uniq {cs:List Cls}(a:Lined cs):Uniq (newT cs):=by
 refine Uniq.cls (Zcj cs) ?_;rw[←Zc8];exact ZcA a.names _ (Yad _)
theorem Zbn {cs:List Cls}{i:Nat}{e:Ent}(b:(newT cs)[i]?=some e):(i<8/\startL[i]?=some e)\/(8<=i/\∃c,cs[i-8]?=some c/\e=Zdg cs c):=by
 unfold newT at b;rcases YaC i 8 with a|a
 ·rw[YaR (by rw[ZaF];exact a)]at b;exact .inl ⟨a,b⟩
 ·rw[YaJ (by rw[ZaF];exact a),ZaF,Yav]at b;obtain⟨c,f,d⟩:=YaO.1 b;exact .inr ⟨a,c,f,d.symm⟩
theorem Zid (cs:List Cls):(Zar cs).length=8+cs.length:=by unfold Zar;rw[Yal,ZaF,YaB]
theorem Zjh:∀i,i<8->∀d∈parE startL i,d<2/\d≠i:=by decide
theorem ZcJ {cs:List Cls}{i:Nat}(a:i<8):parE (newT cs) i=parE startL i:=by
 unfold parE newT;rw[YaR (by rw[ZaF];exact a)]
theorem Lined.par {cs:List Cls}(k:Lined cs):Zdi (newT cs):=fun c d a=>by
 rw[ZaX];cases g:(newT cs)[c]? with
 |none=>unfold parE at a;rw[g]at a;cases a
 |some e=>
  rcases Zbn g with⟨b,h⟩|⟨b,x,h,rfl⟩
  ·rw[ZcJ b]at a;have:=(Zjh c b d a).1;omega
  ·rw[ZcY g]at a;unfold Ent.par Zdg at a;have i:=Yaf h;rcases Yaq.1 a with f|f
   ·have j:upE (Zar cs) x.sup=some d:=by simpa using f
    have:=(Zjo j).2;rw[Zid]at this;exact this
   ·have:=ZiQ (k.likes x i) d f;rw[Zid]at this;exact this
theorem ZdK {es:List Ent}{n:List UInt8}{i:Nat}(c:Zad es n=some i):∃e,es[i]?=some e/\e.cls.name=n:=by
 unfold Zad at c;obtain⟨a,b,_⟩:=YaX.1 c;exact⟨es[i],Yaa a,by simpa using b⟩
theorem ZcV {es:List Ent}{n:List UInt8}{d:Nat}(a:Zcp es n=some d):Zad es n=some d/\ZcB es d=true:=by
 unfold Zcp at a;cases b:Zad es n with
 |none=>rw[b]at a;cases a
 |some i=>
  rw[b]at a;dsimp only at a;split at a
  ·rename_i c;obtain rfl:=Yac a;exact⟨rfl,c⟩
  ·cases a
theorem Lined.self {cs:List Cls}(t:Lined cs)(c:Nat):c ∉ parE (newT cs) c:=fun a=>by
 cases d:(newT cs)[c]? with
 |none=>unfold parE at a;rw[d]at a;cases a
 |some e=>
  rcases Zbn d with⟨j,p⟩|⟨j,x,p,rfl⟩
  ·rw[ZcJ j]at a;exact(Zjh c j c a).2 rfl
  ·rw[ZcY d]at a;unfold Ent.par Zdg at a;have m:=Yaf p;have h:=(t.good x m).apart;have i:∀n,Zad (Zar cs) n=some c->x.name=n:=fun n l=>by
    rw[←ZbB (Zcj cs)]at l;obtain⟨v,b,s⟩:=ZdK l;rw[d]at b;obtain rfl:=Yac b;exact s
   rcases Yaq.1 a with k|k
   ·have r:upE (Zar cs) x.sup=some c:=by simpa using k
    exact h.1 (i _ (Zjo r).1).symm
   ·obtain⟨n,g,f⟩:=Ya2.1 (show c∈x.like.map fun n=>(Zcp (Zar cs) n).getD 0 from k);have b:=YaF.1 (t.likes x m) n g;obtain⟨u,q⟩:=YaL.1 b;rw[q]at f;obtain rfl:u=c:=f;exact h.2 ((i _ (ZcV q).1)▸g)
theorem Zkz:∀e∈startL,e.cls.name.length<=32/\e.cls.flds.length<=32/\e.cls.mths.length<=32/\e.lk.length<=32:=by
 have b:startL.all (fun e=>decide (e.cls.name.length<=32/\e.cls.flds.length<=32/\e.cls.mths.length<=32/\e.lk.length<=32))=true:=by decide
 exact fun e a=>of_decide_eq_true (YaF.1 b e a)
theorem Lined.small {cs:List Cls}(h:Lined cs)(i:Nat)(e:Ent)(g:(newT cs)[i]?=some e):e.cls.name.length<=32/\e.cls.flds.length<=32/\e.cls.mths.length<=32/\e.lk.length<=32:=by
 rcases Zbn g with⟨d,a⟩|⟨d,x,a,rfl⟩
 ·exact Zkz e (Yaf a)
 ·have c:=h.good x (Yaf a);have f:=Zdm c.name;have b:=c.nums;refine⟨f,b.2.1,b.2.2,?_⟩;show(ZbI (Zar cs) x.like).length<=32;unfold ZbI;rw[YaB];exact b.1
theorem Lined.shape {cs:List Cls}(b:Lined cs)(c:Acyc (newT cs)):Shape (newT cs):=
 c.shape b.par (by rw[ZaX];have:=b.len;omega) (fun i e a=>by have:=(b.small i e a).2.2.2;omega) (fun i e a=>(b.small i e a).2.1) (fun i e a=>(b.small i e a).1)
theorem Zls (B:Nat->Nat)(k:Nat)(g:Array Value)(x:Nat)(l p:World->Prop)(w:World)(s:∀args w,(callFunc k args).run prog w=.ok (.enter k args) w)
  (i:Calls prog k (#[entV B x]++g) w (YesNo l (fun j=>
   Calls prog 204 #[.pointer (some ⟨B x,0,none⟩),.map (some j.heap.size),.func (.func k) #[] g] (j.alloc (.map #[] 0)) (YesNo l p)))) :
  Calls prog 151 #[.pointer (some ⟨B x,0,none⟩),.func (.func k) #[] g] w (YesNo l p):=by
 have q:=@run_makeMap prog;have n:=Hd i;clear i;go_enter func151,ntmps151
 go_wp2_with fail;refine n.o.mono ?_;rintro m t⟨b,rfl,h,d⟩;have f:=Hd h;have a:=Hd d;clear h d n;cases b
 ·have c:=Hd (a.o rfl);clear f a;go_wp2_with fail;refine c.o.mono ?_;rintro m r⟨b,rfl,h,d⟩;have f:=Hd h;have a:=Hd d;clear h d c;cases b
  ·have c:=Hd (a.o rfl);clear f a;go_wp2;go_ret;exact⟨false,rfl,(fun i=>by cases i),fun _=>c.o⟩
  ·have c:=Hd (f.o rfl);clear f a;go_wp2;go_ret;exact⟨true,rfl,fun _=>c.o,(fun i=>by cases i)⟩
 ·have c:=Hd (f.o rfl);clear f a;go_wp2;go_ret;exact⟨true,rfl,fun _=>c.o,(fun i=>by cases i)⟩
def Zas (es:List Ent)(x:Nat):List Nat:=x::vis es es.length [] (lkOf es x)
theorem Zic {A:Nat->Prop}{B:Nat->Nat}{K E:Nat}{es:List Ent}{p:World}(z:Tab A p K E B es)(m:Shape es)(q:Nat)(c:Array Value)
  (t:∀args w,(callFunc q args).run prog w=.ok (.enter q args) w)(lo x:Nat)(G:x<es.length)(n C:Nat->World->Prop)(w:World)(r:∀k w',n k w'->lo<=w'.heap.size)
  (y:∀k w',n k w'->Below p.heap.size p w')(i:Zng lo n)(h:Zni B q c lo (Zas es x) n C)(v:n 0 w) :
  Calls prog 151 #[.pointer (some ⟨B x,0,none⟩),.func (.func q) #[] c] w (YesNo (fun w'=>∃k,k<(Zas es x).length/\C k w') (n (Zas es x).length)):=by
 obtain⟨e,f⟩:∃e,es[x]?=some e:=⟨_,Yaa G⟩
 have u:lkOf es x=e.lk:=Zbm f;refine Zls B q c x _ _ w t ?_;refine(h 0 x w rfl v).mono fun L d H=>H.1.mono' (fun l=>⟨0,Nat.succ_pos _,l⟩) (fun g=>?_);have D:Met (d.alloc (.map #[] 0)) d.heap.size []:=Met.new d;have s:=r 1 d g;unfold Zas at h⊢;rw[u]at h⊢;refine(Zoh z m.len m.lk q c t lo d.heap.size s es.length x e [] (fun k=>n (k+1)) (fun k=>C (k+1)) _ f (m.deep x e f) .nil (fun J j=>by cases j) (fun k w' l=>y _ w' l) (fun k a b g F=>i _ a b g F)
  (fun k J w' j I=>h (k+1) J w' (by rw[List.getElem?_cons_succ];exact j) I) (i 1 _ _ g ((Yak _ d).alloc _)) D).mono fun M w2 H=>H.mono' (fun⟨k,N,l⟩=>⟨k+1,by rw[YaI];omega,l⟩) (fun l=>?_)
 rw[YaI];exact l.1
theorem Zlr {A:Nat->Prop}{B:Nat->Nat}{I y:Nat}{es:List Ent}{q:World}(u:Tab A q I y B es)(D:Shape es)(s:Nat)(a:Array Value)(C:∀args w,(callFunc s args).run prog w=.ok (.enter s args) w)
  (x:Nat)(E:x<es.length)(p:Nat->Bool)(w:World)(t:Below q.heap.size q w)(G:∀h w',h∈Zas es x->Below w.heap.size w w'->Calls prog s (#[entV B h]++a) w' (Said (p h) w')) :
  Calls prog 151 #[.pointer (some ⟨B x,0,none⟩),.func (.func s) #[] a] w (Said ((Zas es x).any p) w):=by
 refine(Zic u D s a C w.heap.size x E (fun k w'=>Below w.heap.size w w'/\((Zas es x).take k).any p=false) (fun _ w'=>Below w.heap.size w w'/\(Zas es x).any p=true) w (fun k w' n=>n.1.size)
  (fun k w' n=>t.trans (n.1.mono t.size)) (fun k J w2 n v=>⟨n.1.trans (Only.below v n.1.size (fun i z=>z)),n.2⟩) (fun k h w' l g=>?_) ⟨Yab _ _,by simp⟩).mono fun e w' K=>?_
 ·refine(G h w' (Yaf l) g.1).mono fun e H ⟨c,d⟩=>?_;have r:=g.1.trans (d.mono g.1.size);refine⟨⟨p h,c,fun m=>⟨r,YaU.2 ⟨h,Yaf l,m⟩⟩,fun m=>⟨r,?_⟩⟩,Yae d⟩;rw[Zap p _ k h l,g.2,m];rfl
 ·obtain⟨b,c,d,F⟩:=K;cases b with
  |true=>
   obtain⟨_,_,j,f⟩:=d rfl;exact⟨by rw[f];exact c,j⟩
  |false=>
   obtain⟨j,f⟩:=F rfl;rw[YaE]at f;exact⟨by rw[f];exact c,j⟩
