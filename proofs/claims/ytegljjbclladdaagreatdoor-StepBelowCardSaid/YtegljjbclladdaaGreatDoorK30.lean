/- laws -/
import Derived.Test.YtegljjbclladdaaGreatDoorK29
set_option maxRecDepth 100000
set_option maxHeartbeats 16000000
namespace Go.Proofs.YtegljjbclladdaaGreatDoor
open Go.RowKit Tryz
def msE (es:List Ent)(L:List Nat):List Mth:=L.flatMap (Zal es)
def knOf (es:List Ent)(x:Nat)(a:List Mth)(n:List UInt8):Option Mth:=(a.find? fun m=>m.name==n).map (inhE es x)
def clash (es:List Ent)(x:Nat)(a:List Mth)(m:Mth):Bool:=match knOf es x a m.name with|some k=>ZaJ m != ZaJ k|none=>false
def ZaN (es:List Ent)(x:Nat):Bool:=(msE es (Zas es x)).any (clash es x (msE es (Zas es x)))
theorem ZhD {es:List Ent}{x:Nat}{a b:List Mth}{n:List UInt8}(h:∃m∈a,m.name=n):knOf es x (a++b) n=knOf es x a n:=by
 unfold knOf;rw[List.find?_append];obtain⟨m,c,f⟩:=h;have d:(a.find? fun m=>m.name==n).isSome=true:=List.find?_isSome.2 ⟨m,c,by simp[f]⟩;obtain⟨k,g⟩:=YaL.1 d;rw[g];rfl
def Kn (d:World)(es:List Ent)(x:Nat)(g:Nat)(c:List Mth)(w:World):Prop:=
 ∃n f h,MapF prog 9 (.agg #[.string ⟨#[]⟩,.slice none 0 0,.string ⟨#[]⟩,.bool false,.int .i64 0,.slice none 0 0,.slice none 0 0]) w g n f h/\n<=c.length/\(∀a,h (.string a)=true↔∃m∈c,m.name=a)/\
  ∀a,h (.string a)=true->∃k,knOf es x c a=some k/\MthR (fun b=>b<d.heap.size) w k (f (.string a))
theorem Kn.keep {c:World}{es:List Ent}{x d:Nat}{h:List Mth}{w w':World}{S:Nat->Prop}(t:Kn c es x d h w)(g:Only S w w')(q:¬S d)(s:∀b,b<c.heap.size->¬S b):Kn c es x d h w':=by
 obtain⟨n,f,u,i,m,l,r⟩:=t;exact⟨n,f,u,i.keep g q,m,l,fun j p=>let⟨k,a,b⟩:=r j p;⟨k,a,MthR.st.keep b g s⟩⟩
theorem Ze1 (w:World):(zeroValue 26).run prog w=.ok (.agg #[.string ⟨#[]⟩,.slice none 0 0,.string ⟨#[]⟩,.bool false,.int .i64 0,.slice none 0 0,.slice none 0 0]) w:=by kernel_rfl
theorem Kn.look {g:World}{es:List Ent}{x c:Nat}{d:List Mth}{w:World}(t:Kn g es x c d w)(a:List UInt8)(i:a.length<=9223372036854775807)(l:∃m∈d,m.name=a) :
  ∃k v,knOf es x d a=some k/\MthR (fun b=>b<g.heap.size) w k v/\(Instr.lookup 146 (.map (some c)) (.string (S a)) false).run prog w=.ok v w/\(Instr.lookup 146 (.map (some c)) (.string (S a)) true).run prog w=.ok (.tuple #[v,.bool true]) w:=by
 obtain⟨n,f,y,h,u,p,s⟩:=t;have j:=(p a).2 l;obtain⟨k,r,q⟩:=s a j;have l1:=h.look Zbb underlying146 (Ze1 w) (ZcT a i);have l2:=h.look_ok Zbb underlying146 (Ze1 w) (ZcT a i);rw[j]at l2;exact⟨k,_,r,q,l1,l2⟩
theorem Kn.look_no {q:World}{es:List Ent}{x d:Nat}{g:List Mth}{w:World}(y:Kn q es x d g w)(a:List UInt8)(p:a.length<=9223372036854775807)(l:¬ ∃m∈g,m.name=a) :
  (Instr.lookup 146 (.map (some d)) (.string (S a)) true).run prog w=.ok (.tuple #[.agg #[.string ⟨#[]⟩,.slice none 0 0,.string ⟨#[]⟩,.bool false,.int .i64 0,.slice none 0 0,.slice none 0 0],.bool false]) w:=by
 obtain⟨n,f,t,b,v,r,u⟩:=y;have c:t (.string a)=false:=by
  cases i:t (.string a)with
  |false=>rfl
  |true=>exact absurd ((r a).1 i) l
 have l2:=b.look_ok Zbb underlying146 (Ze1 w) (ZcT a p);have j:f (.string a)=.agg #[.string ⟨#[]⟩,.slice none 0 0,.string ⟨#[]⟩,.bool false,.int .i64 0,.slice none 0 0,.slice none 0 0]:=by
  obtain⟨z,_,_,s,k⟩:=b;have h:=s (.string a);rw[Maps.atKey_of_not_has (by rw[k,c])]at h;exact(DataW.held.inj h).symm
 rw[c,j]at l2;exact l2
theorem Kn.more {d:World}{es:List Ent}{x i:Nat}{c:List Mth}{w:World}(u:Kn d es x i c w){m:Mth}(j:∃k∈c,k.name=m.name):Kn d es x i (c++[m]) w:=by
 obtain⟨n,f,y,l,v,g,r⟩:=u;refine⟨n,f,y,l,by rw[Yal];omega,fun b=>?_,fun b h=>?_⟩
 ·rw[g];constructor
  ·rintro⟨k,a,e⟩;exact⟨k,Yba _ a,e⟩
  ·rintro⟨k,a,e⟩;rcases Yaq.1 a with a|a
   ·exact⟨k,a,e⟩
   ·obtain rfl:=Yax.1 a;obtain⟨t,q,s⟩:=j;exact⟨t,q,s.trans e⟩
 ·obtain⟨k,a,p⟩:=r b h;exact⟨k,by rw[ZhD ((g b).1 h)];exact a,p⟩
theorem Kn.put {j:World}{es:List Ent}{x c:Nat}{i:List Mth}{w:World}(t:Kn j es x c i w){m:Mth}{v:Value}(r:¬ ∃k∈i,k.name=m.name)(D:m.name.length<=9223372036854775807)(I:i.length<9223372036854775807)(G:j.heap.size<=c)(C:MthR (fun b=>b<j.heap.size) w (inhE es x m) v) :
  (Instr.mapUpdate 146 (.map (some c)) (.string (S m.name)) v).run prog w=.ok () (putW prog 146 (.map (some c)) (.string (S m.name)) v w)/\Kn j es x c (i++[m]) (putW prog 146 (.map (some c)) (.string (S m.name)) v w)/\
   Only (fun b=>b=c) w (putW prog 146 (.map (some c)) (.string (S m.name)) v w):=by
 obtain⟨n,f,y,B,H,q,A⟩:=t;obtain⟨E,s,p,_⟩:=B.put Zbb underlying146 (by unfold maxLen;omega) (val:=v) (ZcT m.name D);have F:y (.string m.name)=false:=by
  cases h:y (.string m.name)with
  |false=>rfl
  |true=>exact absurd ((q m.name).1 h) r
 rw[F]at s;refine⟨E,⟨_,_,_,s,by rw[Yal];simp;omega,fun g=>?_,fun g h=>?_⟩,p⟩
 ·by_cases e:g=m.name
  ·subst e;rw[Zb5];exact⟨fun _=>⟨m,by simp,rfl⟩,fun _=>rfl⟩
  ·rw[Zbk y true (show Lit.string g≠Lit.string m.name from fun t=>e (Lit.string.inj t)),q];constructor
   ·rintro⟨k,a,d⟩;exact⟨k,Yba _ a,d⟩
   ·rintro⟨k,a,d⟩;rcases Yaq.1 a with a|a
    ·exact⟨k,a,d⟩
    ·obtain rfl:=Yax.1 a;exact absurd d.symm e
 ·by_cases e:g=m.name
  ·subst e;refine⟨inhE es x m,?_,?_⟩
   ·unfold knOf;rw[List.find?_append,Ycl.2 (fun k a=>by simp only[beq_iff_eq];exact fun d=>r ⟨k,a,d⟩)];simp
   ·rw[Zb5];exact MthR.st.keep C p (fun b z (d:b=c)=>by omega)
  ·have l:Lit.string g≠Lit.string m.name:=fun t=>e (Lit.string.inj t);rw[Zbk y true l]at h;obtain⟨k,a,u⟩:=A g h;refine⟨k,by rw[ZhD ((q g).1 h)];exact a,?_⟩;rw[Zbk f v l];exact MthR.st.keep u p (fun b z (d:b=c)=>by omega)
theorem ZiW {w d:World}{b n:Nat}{f:Lit->Value}{m:Lit->Bool}{a v:Value}{j:Lit}(l:MapF prog 9 (.agg #[.string ⟨#[]⟩,.slice none 0 0,.string ⟨#[]⟩,.bool false,.int .i64 0,.slice none 0 0,.slice none 0 0]) w b n f m)(c:keyOf prog 9 a=some j)(k:Below w.heap.size w d)
  (i:(Instr.lookup 146 (.map (some b)) a false).run prog w=.ok v w):(Instr.lookup 146 (.map (some b)) a false).run prog d=.ok v d:=by
 have g:=l.look Zbb underlying146 (Ze1 w) c;have h:=(l.keep (Yae (S:=fun _=>False) k) id).look Zbb underlying146 (Ze1 d) c;obtain⟨e,_⟩:=Result.ok.inj (i.symm.trans g);rw[e];exact h
theorem ZnS {A:Nat->Prop}{B:Nat->Nat}{bM bC:Nat}{es:List Ent}{s:World}(bj:Tab A s bM bC B es)(bo:Shape es)(bx:Zdi es)(aV:∀i,(Zal es i).length<=9223372036854775807)(x:Nat)(bz:x<es.length)(m:Mth)(v:Value)(D:List Mth)(H ay f:Nat)(w:World)(br:Below s.heap.size s w)
  (a7:MthR (fun k=>k<s.heap.size) w m v)(bb:w.cell? ⟨H,0,none⟩=some (.map (some f)))(bd:w.cell? ⟨ay,0,none⟩=some (entV B x))(a9:Kn s es x f D w)(a3:s.heap.size<=f)(F:H≠f)(aY:ay≠f)(bm:m.name.length<=9223372036854775807)(bq:D.length<9223372036854775807)
  (aa:m.brief)(a1:∀k,knOf es x (D++[m]) m.name=some k->k.brief) :
  Calls prog 153 #[v,.pointer (some ⟨H,0,none⟩),.pointer (some ⟨ay,0,none⟩)] w
   (fun e w'=>YesNo (fun _=>clash es x (D++[m]) m=true) (fun w'=>Kn s es x f (D++[m]) w'/\clash es x (D++[m]) m=false) e w'/\Only (fun b=>b=f) w w'):=by
 have ba:=Hd a7;obtain⟨_,_,_,rfl,⟨l,n,rfl⟩,⟨q,p,rfl⟩,⟨j,r,rfl⟩⟩:=Zaj a7;have az:Below w.heap.size w (w.alloc (.cells #[.string (S m.name),.slice l m.params.length n,.string (S m.res),.bool m.abs,.int .i64 m.loc,.slice q m.code.length p,.slice j m.cats.length r] 26)):=Zaa (Yab _ _) _;have E:Only (fun _=>False) w (w.alloc (.cells #[.string (S m.name),.slice l m.params.length n,.string (S m.res),.bool m.abs,.int .i64 m.loc,.slice q m.code.length p,.slice j m.cats.length r] 26)):=Yae az;have Z:=Hd (Box.new w #[.string (S m.name),.slice l m.params.length n,.string (S m.res),.bool m.abs,.int .i64 m.loc,.slice q m.code.length p,.slice j m.cats.length r] 26);have I:=Hd az;have J:=Hd (a9.keep E id (fun _ _=>id));have T:=E.cell bb id;have aw:=E.cell bd id;have a4:Hid (f<w.heap.size/\H<w.heap.size/\ay<w.heap.size):=Hd (by
  obtain⟨_,_,_,Q,_⟩:=a9;exact⟨Q.lt,World.block_lt_of_cell? w _ bb,World.block_lt_of_cell? w _ bd⟩)
 have ai:Hid (∀a,Below s.heap.size s a->MthR (fun k=>k<s.heap.size) a m (.agg #[.string (S m.name),.slice l m.params.length n,.string (S m.res),.bool m.abs,.int .i64 m.loc,.slice q m.code.length p,.slice j m.cats.length r])->Calls prog 154 #[entV B x,.agg #[.string (S m.name),.slice l m.params.length n,.string (S m.res),.bool m.abs,.int .i64 m.loc,.slice q m.code.length p,.slice j m.cats.length r]] a (fun e w'=>∃bi,e=.returned bi/\MthR (fun k=>k<s.heap.size) w' (inhE es x m) bi/\Below a.heap.size a w')):=Hd (fun a h bu=>Zsi bj bo bx aV x bz m _ a h bu);have bn:=Hd br;have ag:=Hd bm;have bA:=Hd bq;have aL:=Hd a3;have bl:=Hd F;have bv:=Hd aY;have a2:=Hd aa;have aW:=Hd a1;clear bj bo bx aV bz br a7 bb bd a9 a3 F aY bm bq aa a1 az E;go_enter func153,ntmps153
 go_upto_region 1 with fail;generalize w.alloc (.cells #[.string (S m.name),.slice l m.params.length n,.string (S m.res),.bool m.abs,.int .i64 m.loc,.slice q m.code.length p,.slice j m.cats.length r] 26)=ao at Z I J T aw⊢;obtain⟨c,aK⟩:∃c,c=w.heap.size:=⟨_,rfl⟩
 rw[←aK]at Z⊢;have aZ:=Hd aK;clear aK;have bs:ao.cell? ⟨c,0,none⟩=some (.string (S m.name)):=Z.o.cell 0 rfl;by_cases ax:∃k∈D,k.name=m.name
 ·obtain⟨bN,bK,_,aP,_,ar⟩:=J.o.look m.name ag.o ax;obtain⟨_,_,_,rfl,⟨bI,bH,rfl⟩,⟨bF,bJ,rfl⟩,⟨bL,bG,rfl⟩⟩:=Zaj aP;have aB:=Hd ax;clear ax aP;go_upto_region 4 with fail;refine Zau (fun d=>Kn s es x f (D++[m]) d/\Only (fun b=>b=f) w d/\Box d c #[.string (S m.name),.slice l m.params.length n,.string (S m.res),.bool m.abs,.int .i64 m.loc,.slice q m.code.length p,.slice j m.cats.length r] 26/\d.cell? ⟨H,0,none⟩=some (.map (some f))) ⟨(J.o.more aB.o).keep ((Yak (fun _=>False) ao).alloc _) id (fun _ _=>id),(Yae I.o).alloc _,Z.o.below (Zaa (Yab _ _) _),((Yak (fun _=>False) ao).alloc _).cell T id⟩ ?_;rintro d⟨L,W,af,F⟩;clear bs ar T aw ai Z I J;have ac:=Hd L;have U:=Hd W;have aO:=Hd af;have M:=F;obtain⟨k,bE,R,K,ab,_⟩:=L.look m.name ag.o ⟨m,by simp,rfl⟩;have aH:=Hd K;have Y:=Hd R;obtain⟨_,_,_,rfl,⟨ap,ah,rfl⟩,⟨al,am,rfl⟩,⟨lo,aq,rfl⟩⟩:=Zaj K;have N:Hid (∀a,Below d.heap.size d a->a.cell? ⟨H,0,none⟩=some (.map (some f))/\a.cell? ⟨c,0,none⟩=some (.string (S m.name))/\a.cell? ⟨c,1,none⟩=some (.slice l m.params.length n)/\a.cell? ⟨c,2,none⟩=some (.string (S m.res))/\a.cell? ⟨c,3,none⟩=some (.bool m.abs)/\a.cell? ⟨c,4,none⟩=some (.int .i64 m.loc)/\a.cell? ⟨c,5,none⟩=some (.slice q m.code.length p)/\a.cell? ⟨c,6,none⟩=some (.slice j m.cats.length r)/\(Instr.lookup 146 (.map (some f)) (.string (S m.name)) false).run prog a=.ok (.agg #[.string (S k.name),.slice ap k.params.length ah,.string (S k.res),.bool k.abs,.int .i64 k.loc,.slice al k.code.length am,.slice lo k.cats.length aq]) a):=Hd (fun a h=>by
   have bf:=Yae (S:=fun _=>False) h;have g:=aO.o.below h;refine⟨bf.cell M id,g.cell 0 rfl,g.cell 1 rfl,g.cell 2 rfl,g.cell 3 rfl,g.cell 4 rfl,g.cell 5 rfl,g.cell 6 rfl,?_⟩;obtain⟨_,_,_,Q,_⟩:=ac.o;exact ZiW Q (ZcT m.name ag.o) h ab)
  have z:Hid (∀a,Below d.heap.size d a->Calls prog 155 #[.agg #[.string (S m.name),.slice l m.params.length n,.string (S m.res),.bool m.abs,.int .i64 m.loc,.slice q m.code.length p,.slice j m.cats.length r]] a (Zcc (ZaJ m) a)):=Hd (fun a h=>ZeB m _ a (MthR.st.keep ba.o (U.o.then (Yae (S:=fun _=>False) h) (fun _ _ bh=>bh.elim)) (fun b a5 (e:b=f)=>by have Q:=aL.o;have bg:b<s.heap.size:=a5;omega)) a2.o);have u:Hid (∀a,Below d.heap.size d a->Calls prog 155 #[.agg #[.string (S k.name),.slice ap k.params.length ah,.string (S k.res),.bool k.abs,.int .i64 k.loc,.slice al k.code.length am,.slice lo k.cats.length aq]] a (Zcc (ZaJ k) a)):=Hd (fun a h=>ZeB k _ a (MthR.st.keep aH.o (Yae (S:=fun _=>False) h) (fun _ _=>id)) (aW.o k Y.o));have y:Hid (clash es x (D++[m]) m=(ZaJ m != ZaJ k)):=Hd (by unfold clash;rw[Y.o]);unfold Zcc at z u;clear L W af R K M F ab;have t:Below d.heap.size d d:=Yab _ _;obtain⟨aS,aE,aC,aI,aD,aM,aN,aQ,aJ⟩:=N.o d t;have a6:=Zaf (ZaJ m);have ak:=Zaf (ZaJ k);generalize ZaJ m=aR at z y a6;generalize ZaJ k=aF at u y ak;go_upto_region 4 with fail;first
  |(go_region_held3 (fun a=>a.cell? ⟨H,0,none⟩=some (.map (some f))/\a.cell? ⟨c,0,none⟩=some (.string (S m.name))/\a.cell? ⟨c,1,none⟩=some (.slice l m.params.length n)/\a.cell? ⟨c,2,none⟩=some (.string (S m.res))/\a.cell? ⟨c,3,none⟩=some (.bool m.abs)/\a.cell? ⟨c,4,none⟩=some (.int .i64 m.loc)/\a.cell? ⟨c,5,none⟩=some (.slice q m.code.length p)/\a.cell? ⟨c,6,none⟩=some (.slice j m.cats.length r)/\(Instr.lookup 146 (.map (some f)) (.string (S m.name)) false).run prog a=.ok (.agg #[.string (S k.name),.slice ap k.params.length ah,.string (S k.res),.bool k.abs,.int .i64 k.loc,.slice al k.code.length am,.slice lo k.cats.length aq]) a) ((refine N.o _ ?_;(with_reducible repeat (first|exact Yab _ _|(apply Zae;rotate_left;assumption)|refine Zab ?_))))
    (first
     |((with_reducible refine(z.o _ ?_).mono ?_);(focus ((with_reducible repeat (first|exact Yab _ _|(apply Zae;rotate_left;assumption)|refine Zab ?_));done));rintro ak G⟨rfl,P⟩)
     |((with_reducible refine(u.o _ ?_).mono ?_);(focus ((with_reducible repeat (first|exact Yab _ _|(apply Zae;rotate_left;assumption)|refine Zab ?_));done));rintro bB w2⟨rfl,O⟩)))
  |fail
  all_goals
   have ae:Below d.heap.size d w2:=by
    have au:Below d.heap.size d G:=(by first|exact Zae t P|exact Zae (Zab t) P|exact Zae (Zab (Zab t)) P);first|exact Zae au O|exact Zae (Zab au) O|exact Zae (Zab (Zab au)) O
   have X:=Hd ae;clear ae P O aS aE aC aI aD aM aN aQ aJ t N z u;go_wp2;go_ret;refine⟨⟨aR != aF,by(cases bc:(aR==aF)<;>simp[bne,bc]),fun aT=>by(rw[y.o];exact aT),fun aT=>⟨ac.o.keep (Yae (S:=fun _=>False) X.o) id (fun _ _=>id),by(rw[y.o];exact aT)⟩⟩,U.o.then (Yae (S:=fun _=>False) X.o) (fun _ _ bh=>bh.elim)⟩
 ·have ar:=J.o.look_no m.name ag.o ax;have aB:=Hd ax;clear ax;go_upto_region 3 with fail;refine Zau (fun d=>Kn s es x f D d/\Below ao.heap.size ao d) ⟨J.o.keep ((Yak (fun _=>False) ao).alloc _) id (fun _ _=>id),Zaa (Yab _ _) _⟩ ?_;rintro wr⟨aA,aa⟩;have aX:=Hd aA;have C:=Hd aa;have ad:Hid (∀a,Only (fun b=>b=f) wr a->a.cell? ⟨H,0,none⟩=some (.map (some f))/\a.cell? ⟨ay,0,none⟩=some (entV B x)/\a.cell? ⟨c,0,none⟩=some (.string (S m.name))/\a.cell? ⟨c,1,none⟩=some (.slice l m.params.length n)/\a.cell? ⟨c,2,none⟩=some (.string (S m.res))/\a.cell? ⟨c,3,none⟩=some (.bool m.abs)/\a.cell? ⟨c,4,none⟩=some (.int .i64 m.loc)/\a.cell? ⟨c,5,none⟩=some (.slice q m.code.length p)/\a.cell? ⟨c,6,none⟩=some (.slice j m.cats.length r)):=Hd (fun a h=>by
   have E:Only (fun b=>b=f) ao a:=(Yae C.o).trans h;have bO:∀b,b≠f->¬b=f:=fun _ aT=>aT;have g:=Z.o.keep E (fun e=>by have Q:=aZ.o;have bg:=a4.o.1;omega);exact⟨E.cell T bl.o,E.cell aw bv.o,g.cell 0 rfl,g.cell 1 rfl,g.cell 2 rfl,g.cell 3 rfl,g.cell 4 rfl,g.cell 5 rfl,g.cell 6 rfl⟩)
  have av:Hid (∀a,Below wr.heap.size wr a->Calls prog 154 #[entV B x,.agg #[.string (S m.name),.slice l m.params.length n,.string (S m.res),.bool m.abs,.int .i64 m.loc,.slice q m.code.length p,.slice j m.cats.length r]] a (fun e G=>∃V,e=.returned V/\Only (fun b=>b=f) wr G/\(Instr.mapUpdate 146 (.map (some f)) (.string (S m.name)) V).run prog G=.ok () (putW prog 146 (.map (some f)) (.string (S m.name)) V G)/\Kn s es x f (D++[m]) (putW prog 146 (.map (some f)) (.string (S m.name)) V G)/\Only (fun b=>b=f) wr (putW prog 146 (.map (some f)) (.string (S m.name)) V G))):=Hd (fun a h=>by
   have a0:Below w.heap.size w a:=I.o.trans ((C.o.trans (h.mono C.o.size)).mono I.o.size);refine(ai.o a (bn.o.trans (a0.mono bn.o.size)) (MthR.st.keep ba.o (Yae (S:=fun _=>False) a0) (fun _ _=>id))).mono ?_;rintro ak G⟨V,rfl,bp,bw⟩;have aG:Below wr.heap.size wr G:=h.trans (bw.mono h.size);obtain⟨a8,aU,aj⟩:=(aX.o.keep (Yae (S:=fun _=>False) aG) id (fun _ _=>id)).put aB.o ag.o bA.o aL.o bp;exact⟨V,rfl,Yae aG,a8,aU,(Yae aG).trans aj⟩)
  have t:Only (fun b=>b=f) wr wr:=Yak _ _;obtain⟨aS,aE,aC,aI,aD,aM,aN,aQ,aJ⟩:=ad.o wr t;clear bs aA aa ar ai J;first
  |(go_region_held3 (fun a=>a.cell? ⟨H,0,none⟩=some (.map (some f))/\a.cell? ⟨ay,0,none⟩=some (entV B x)/\a.cell? ⟨c,0,none⟩=some (.string (S m.name))/\a.cell? ⟨c,1,none⟩=some (.slice l m.params.length n)/\a.cell? ⟨c,2,none⟩=some (.string (S m.res))/\a.cell? ⟨c,3,none⟩=some (.bool m.abs)/\a.cell? ⟨c,4,none⟩=some (.int .i64 m.loc)/\a.cell? ⟨c,5,none⟩=some (.slice q m.code.length p)/\a.cell? ⟨c,6,none⟩=some (.slice j m.cats.length r)) ((refine ad.o _ ?_;(with_reducible repeat (first|exact Yak _ _|assumption|refine Ybs ?_))))
    (first
     |((with_reducible refine(av.o _ ?_).mono ?_);(focus ((with_reducible repeat (first|exact Yab _ _|(apply Zae;rotate_left;assumption)|refine Zab ?_));done));rintro ak G⟨V,rfl,bD,a8,aU,aj⟩)))
  |fail
  clear aS aE aC aI aD aM aN aQ aJ t;obtain⟨_,bt,bk⟩:=ad.o _ aj;go_upto_region 4 with fail;refine Zau (fun d=>Kn s es x f (D++[m]) d/\Only (fun b=>b=f) w d/\Box d c #[.string (S m.name),.slice l m.params.length n,.string (S m.res),.bool m.abs,.int .i64 m.loc,.slice q m.code.length p,.slice j m.cats.length r] 26/\d.cell? ⟨H,0,none⟩=some (.map (some f))) ⟨aU,(Yae I.o).trans ((Yae C.o).trans aj),(Z.o.below C.o).keep aj (fun e=>by have Q:=aZ.o;have bg:=a4.o.1;omega),(ad.o _ aj).1⟩ ?_;rintro d⟨L,W,af,F⟩;clear T aw Z I a8 aU aj bD bt bk ad av aX C;have ac:=Hd L;have U:=Hd W;have aO:=Hd af;have M:=F;obtain⟨k,bE,R,K,ab,_⟩:=L.look m.name ag.o ⟨m,by simp,rfl⟩;have aH:=Hd K;have Y:=Hd R;obtain⟨_,_,_,rfl,⟨ap,ah,rfl⟩,⟨al,am,rfl⟩,⟨lo,aq,rfl⟩⟩:=Zaj K;have N:Hid (∀a,Below d.heap.size d a->a.cell? ⟨H,0,none⟩=some (.map (some f))/\a.cell? ⟨c,0,none⟩=some (.string (S m.name))/\a.cell? ⟨c,1,none⟩=some (.slice l m.params.length n)/\a.cell? ⟨c,2,none⟩=some (.string (S m.res))/\a.cell? ⟨c,3,none⟩=some (.bool m.abs)/\a.cell? ⟨c,4,none⟩=some (.int .i64 m.loc)/\a.cell? ⟨c,5,none⟩=some (.slice q m.code.length p)/\a.cell? ⟨c,6,none⟩=some (.slice j m.cats.length r)/\(Instr.lookup 146 (.map (some f)) (.string (S m.name)) false).run prog a=.ok (.agg #[.string (S k.name),.slice ap k.params.length ah,.string (S k.res),.bool k.abs,.int .i64 k.loc,.slice al k.code.length am,.slice lo k.cats.length aq]) a):=Hd (fun a h=>by
   have bf:=Yae (S:=fun _=>False) h;have g:=aO.o.below h;refine⟨bf.cell M id,g.cell 0 rfl,g.cell 1 rfl,g.cell 2 rfl,g.cell 3 rfl,g.cell 4 rfl,g.cell 5 rfl,g.cell 6 rfl,?_⟩;obtain⟨_,_,_,Q,_⟩:=ac.o;exact ZiW Q (ZcT m.name ag.o) h ab)
  have z:Hid (∀a,Below d.heap.size d a->Calls prog 155 #[.agg #[.string (S m.name),.slice l m.params.length n,.string (S m.res),.bool m.abs,.int .i64 m.loc,.slice q m.code.length p,.slice j m.cats.length r]] a (Zcc (ZaJ m) a)):=Hd (fun a h=>ZeB m _ a (MthR.st.keep ba.o (U.o.then (Yae (S:=fun _=>False) h) (fun _ _ bh=>bh.elim)) (fun b a5 (e:b=f)=>by have Q:=aL.o;have bg:b<s.heap.size:=a5;omega)) a2.o);have u:Hid (∀a,Below d.heap.size d a->Calls prog 155 #[.agg #[.string (S k.name),.slice ap k.params.length ah,.string (S k.res),.bool k.abs,.int .i64 k.loc,.slice al k.code.length am,.slice lo k.cats.length aq]] a (Zcc (ZaJ k) a)):=Hd (fun a h=>ZeB k _ a (MthR.st.keep aH.o (Yae (S:=fun _=>False) h) (fun _ _=>id)) (aW.o k Y.o));have y:Hid (clash es x (D++[m]) m=(ZaJ m != ZaJ k)):=Hd (by unfold clash;rw[Y.o]);unfold Zcc at z u;clear L W af R K M F ab;have t:Below d.heap.size d d:=Yab _ _;obtain⟨aS,aE,aC,aI,aD,aM,aN,aQ,aJ⟩:=N.o d t;have a6:=Zaf (ZaJ m);have ak:=Zaf (ZaJ k);generalize ZaJ m=aR at z y a6;generalize ZaJ k=aF at u y ak;go_upto_region 4 with fail;first
  |(go_region_held3 (fun a=>a.cell? ⟨H,0,none⟩=some (.map (some f))/\a.cell? ⟨c,0,none⟩=some (.string (S m.name))/\a.cell? ⟨c,1,none⟩=some (.slice l m.params.length n)/\a.cell? ⟨c,2,none⟩=some (.string (S m.res))/\a.cell? ⟨c,3,none⟩=some (.bool m.abs)/\a.cell? ⟨c,4,none⟩=some (.int .i64 m.loc)/\a.cell? ⟨c,5,none⟩=some (.slice q m.code.length p)/\a.cell? ⟨c,6,none⟩=some (.slice j m.cats.length r)/\(Instr.lookup 146 (.map (some f)) (.string (S m.name)) false).run prog a=.ok (.agg #[.string (S k.name),.slice ap k.params.length ah,.string (S k.res),.bool k.abs,.int .i64 k.loc,.slice al k.code.length am,.slice lo k.cats.length aq]) a) ((refine N.o _ ?_;(with_reducible repeat (first|exact Yab _ _|(apply Zae;rotate_left;assumption)|refine Zab ?_))))
    (first
     |((with_reducible refine(z.o _ ?_).mono ?_);(focus ((with_reducible repeat (first|exact Yab _ _|(apply Zae;rotate_left;assumption)|refine Zab ?_));done));rintro ak G⟨rfl,P⟩)
     |((with_reducible refine(u.o _ ?_).mono ?_);(focus ((with_reducible repeat (first|exact Yab _ _|(apply Zae;rotate_left;assumption)|refine Zab ?_));done));rintro bB w2⟨rfl,O⟩)))
  |fail
  all_goals
   have ae:Below d.heap.size d w2:=by
    have au:Below d.heap.size d G:=(by first|exact Zae t P|exact Zae (Zab t) P|exact Zae (Zab (Zab t)) P);first|exact Zae au O|exact Zae (Zab au) O|exact Zae (Zab (Zab au)) O
   have X:=Hd ae;clear ae P O aS aE aC aI aD aM aN aQ aJ t N z u;go_wp2;go_ret;refine⟨⟨aR != aF,by(cases bc:(aR==aF)<;>simp[bne,bc]),fun aT=>by(rw[y.o];exact aT),fun aT=>⟨ac.o.keep (Yae (S:=fun _=>False) X.o) id (fun _ _=>id),by(rw[y.o];exact aT)⟩⟩,U.o.then (Yae (S:=fun _=>False) X.o) (fun _ _ bh=>bh.elim)⟩
theorem Zik {es:List Ent}{x:Nat}{a b:List Mth}{m:Mth}(c:∃k∈a,k.name=m.name):clash es x (a++b) m=clash es x a m:=by
 unfold clash;rw[ZhD c]
def NoC (es:List Ent)(x:Nat)(a:List Mth):Prop:=∀m∈a,clash es x a m=false
theorem NoC.snoc {es:List Ent}{x:Nat}{b:List Mth}{m:Mth}(d:NoC es x b)(c:clash es x (b++[m]) m=false):NoC es x (b++[m]):=fun k a=>by
 rcases Yaq.1 a with a|a
 ·rw[Zik ⟨k,a,rfl⟩];exact d k a
 ·rw[Yax.1 a];exact c
def Zhf (es:List Ent):Prop:=∀i,∀m∈Zal es i,m.Good
theorem ZhL {es:List Ent}{x:Nat}{n:List UInt8}{m:Mth}(a:ownM es x n=some m):m∈Zal es x/\m.name=n:=by
 unfold ownM at a;exact⟨YbL a,by have:=Ych a;simpa using this⟩
theorem Zdq {es:List Ent}{o:Option Nat}{n:List UInt8}{b:Nat×Mth}(h:Zbt es o n=some b):b.1∈ZaC es o/\ownM es b.1 n=some b.2:=by
 unfold Zbt at h;obtain⟨l1,a,l2,c,f,_⟩:=YbW.1 h;obtain⟨m,d,g⟩:=YaO.1 f;subst g;exact⟨by rw[c];simp,d⟩
theorem Zov {es:List Ent}(a:Zhf es){x:Nat}{m:Mth}(b:m.Good):(inhE es x m).Good:=by
 unfold inhE orM;cases d:Zbt es (upAt es x) m.name with
 |none=>exact b
 |some c=>exact a c.1 c.2 (ZhL (Zdq d).2).1
theorem ZoG {es:List Ent}(d:Zhf es){x:Nat}{b:List Mth}(a:∀m∈b,m.Good){n:List UInt8}{k:Mth}(g:knOf es x b n=some k):k.Good:=by
 unfold knOf at g;obtain⟨m,c,f⟩:=YaO.1 g;subst f;exact Zov d (a m (YbL c))
structure DJ (w0:World) (es:List Ent) (B:Nat->Nat) (x kb cb km:Nat) (ms:List Mth) (w:World):Prop where
 bel:Below w0.heap.size w0 w
 kn:Kn w0 es x km ms w
 ckb:w.cell? ⟨kb,0,none⟩=some (.map (some km))
 ccb:w.cell? ⟨cb,0,none⟩=some (entV B x)
 no:NoC es x ms
theorem ZnR {A:Nat->Prop}{B:Nat->Nat}{aD au:Nat}{es:List Ent}{j:World}(R:Tab A j aD au B es)(ag:Shape es)(ah:Zdi es)(z:∀i,(Zal es i).length<=32)(V:Zhf es)(x:Nat)(al:x<es.length)(d:Nat)(ac:d<es.length)(c:List Mth)(y u a:Nat)(w:World)(Q:j.heap.size<=a)(q:y≠a)(r:u≠a)
  (M:∀m∈c,m.Good)(aA:c.length<=1099511627776)(g:DJ j es B x y u a c w) :
  Calls prog 152 (#[entV B d]++#[.pointer (some ⟨y,0,none⟩),.pointer (some ⟨u,0,none⟩)]) w
   (fun e w'=>YesNo (fun _=>∃k m,(Zal es d)[k]?=some m/\clash es x (c++(Zal es d).take (k+1)) m=true) (DJ j es B x y u a (c++Zal es d)) e w'/\Only (fun b=>b=a) w w'):=by
 have aC:=Ymf;obtain⟨e,X⟩:∃e,es[d]?=some e:=⟨_,Yaa ac⟩
 obtain⟨aF,aE,ae,sv,ab,_,_,t,_⟩:=R.ent d e X;have N:=Zcr X;have O:=z d;have p:=V d;rw[N]at O p⊢;have Z:w.cell? ⟨B d,8,none⟩=some ae:=(ab.below g.bel).cell 8 rfl;have P:=MthR.st.srcMono (A':=fun k=>k<j.heap.size) t (fun k aw _=>aw);have h:∀w',Only (fun b=>b=a) w w'->Below j.heap.size j w':=fun w' H=>g.bel.trans (H.below g.bel.size (fun b (e:b=a)=>by omega));have J:=Hd (ZnE (A:=fun k=>k<j.heap.size) 153 #[.pointer (some ⟨y,0,none⟩),.pointer (some ⟨u,0,none⟩)] e.cls.mths ae
  (fun k w'=>Kn j es x a (c++e.cls.mths.take k) w'/\NoC es x (c++e.cls.mths.take k)/\Only (fun b=>b=a) w w')
  (fun k w'=>(∃m,e.cls.mths[k]?=some m/\clash es x (c++e.cls.mths.take (k+1)) m=true)/\Only (fun b=>b=a) w w') w (Zac func153 (by kernel_rfl) rfl)
  (fun k w' E=>MthR.st.below P (h w' E.2.2)) ⟨by rw[Yb0,YaN];exact g.kn,by rw[Yb0,YaN];exact g.no,Yak _ _⟩
  (fun k m v G s l ar=>by
   have C:=p m (Yaf s);have K:c++e.cls.mths.take (k+1)=(c++e.cls.mths.take k)++[m]:=by rw[YaK,s,YaY];rfl
   have I:∀am∈(c++e.cls.mths.take k)++[m],am.Good:=fun am f=>by
    rcases Yaq.1 f with f|f
    ·rcases Yaq.1 f with f|f
     ·exact M am f
     ·exact p am (Ybg f)
    ·rw[Yax.1 f];exact C
   refine(ZnS R ag ah (fun i=>by have:=z i;omega) x al m v (c++e.cls.mths.take k) y u a G (h G l.2.2) ar (l.2.2.cell g.ckb q) (l.2.2.cell g.ccb r) l.1 Q q r (by have:=ZhF C.name;omega) (by rw[Yal,YaA];omega) C.brief (fun am f=>(ZoG V I f).brief)).mono ?_;rintro aq w2⟨ao,L⟩;refine ao.mono' (fun E=>⟨⟨m,s,by rw[K];exact E⟩,l.2.2.trans L⟩) (fun E=>?_);dsimp only;rw[K];exact⟨E.1,l.2.1.snoc E.2,l.2.2.trans L⟩) (by omega))
 obtain⟨aH,aG,rfl⟩:=t.shape;have ad:=Hd g;have aa:=Hd h;have ai:=Hd q;have af:=Hd r;have aB:=Hd (rfl:e.cls.mths.length=e.cls.mths.length);obtain⟨n,W⟩:∃n,n=e.cls.mths.length:=⟨_,rfl⟩
 have ap:=Hd W;rw[←W]at J Z;clear R ag ah z V al ac M aA g Q q r X ab t P N O p h W;go_enter func152,ntmps152
 go_wp2_with fail;refine J.o.mono ?_;rintro aq G⟨b,rfl,T,D⟩;cases b with
 |true=>
  obtain⟨k,_,⟨m,s,ak⟩,H⟩:=T rfl;have az:=Hd s;have aj:=Hd ak;have ay:=Hd H;clear T D s ak H Z J;go_wp2;go_ret;exact⟨⟨true,rfl,fun _=>⟨k,m,az.o,aj.o⟩,(fun E=>by cases E)⟩,ay.o⟩
 |false=>
  obtain⟨U,Y,t⟩:=D rfl;rw[ap.o,YaE]at U Y;have ax:=Hd U;have av:=Hd Y;have F:=Hd t;clear T D U Y t Z J;go_wp2;go_ret;exact⟨⟨false,rfl,(fun E=>by cases E),fun _=>⟨aa.o G F.o,ax.o,F.o.cell ad.o.ckb ai.o,F.o.cell ad.o.ccb af.o,av.o⟩⟩,F.o⟩
theorem Znn {es:List Ent}(b:Shape es){x:Nat}(c:x<es.length):(Zas es x).length<=es.length+1:=by
 obtain⟨e,a⟩:∃e,es[x]?=some e:=⟨_,Yaa c⟩
 have f:=ZcW es.length (vis es es.length [] (lkOf es x)) (by have:=Ze0 es es.length [] (lkOf es x) .nil;rwa [Ybq]at this) (fun g d=>Zjr _ _ _ (by rw[Zbm a];exact b.deep x e a) g d);unfold Zas;rw[YaI];omega
theorem ZoR {es:List Ent}(a:∀i,(Zal es i).length<=32):∀L:List Nat,(msE es L).length<=L.length*32
 |[]=>Yad _
 |i::l=>by
  have b:=ZoR a l;have c:=a i;unfold msE at b⊢;rw[Yb6,Yal,YaI];omega
theorem Zk3 {es:List Ent}{L:List Nat}{k d:Nat}(a:L[k]?=some d):msE es (L.take (k+1))=msE es (L.take k)++Zal es d:=by
 unfold msE;rw[YaK,a,Yci];simp
theorem ZqS {es:List Ent}(a:Zhf es)(L:List Nat):∀m∈msE es L,m.Good:=fun m b=>by
 obtain⟨i,_,c⟩:=YbD.1 b;exact a i m c
theorem ZlI {es:List Ent}{x k d b:Nat}{m:Mth}(h:(Zas es x)[k]?=some d)(c:(Zal es d)[b]?=some m)(g:clash es x (msE es ((Zas es x).take k)++(Zal es d).take (b+1)) m=true):ZaN es x=true:=by
 unfold ZaN;have a:m∈(Zal es d).take (b+1):=by rw[YaK,c];simp
 have e:∃j,msE es (Zas es x)=(msE es ((Zas es x).take k)++(Zal es d).take (b+1))++j:=by
  refine⟨(Zal es d).drop (b+1)++msE es ((Zas es x).drop (k+1)),?_⟩
  conv=>lhs;rw[←Ya5 (k+1) (Zas es x)]
  have f:msE es ((Zas es x).take (k+1)++(Zas es x).drop (k+1))=msE es ((Zas es x).take (k+1))++msE es ((Zas es x).drop (k+1)):=by unfold msE;rw[Yci]
  rw[f,Zk3 h]
  conv=>lhs;rw[←Ya5 (b+1) (Zal es d)]
  simp only[YaY]
 obtain⟨j,i⟩:=e;rw[i];refine YaU.2 ⟨m,Yba _ (Ya3 _ a),?_⟩;rw[Zik ⟨m,Ya3 _ a,rfl⟩];exact g
theorem ZjO {es:List Ent}{x:Nat}(b:NoC es x (msE es (Zas es x))):ZaN es x=false:=by
 unfold ZaN;rw[YaW];exact fun m a=>by rw[b m a];decide
theorem ZjN {A:Nat->Prop}{B:Nat->Nat}{aw af:Nat}{es:List Ent}{p:World}(G:Tab A p aw af B es)(n:Shape es)(U:Zdi es)(r:∀i,(Zal es i).length<=32)(K:Zhf es)(x:Nat)(q:x<es.length)(w:World)(y:Below p.heap.size p w) :
  Calls prog 91 #[entV B x] w (Said (ZaN es x) w):=by
 have aq:=Ymf;have X:=@run_makeMap prog;have l:Hid (∀h g a W,DJ p es B x g h a [] W->w.heap.size<=a->g≠a->h≠a->a<W.heap.size->Below w.heap.size w W->Calls prog 151 #[entV B x,.func (.func 152) #[] #[.pointer (some ⟨g,0,none⟩),.pointer (some ⟨h,0,none⟩)]] W (Said (ZaN es x) w)):=Hd (fun h g a W j av P aa ap v=>by
  have am:=y.size;have al:g<W.heap.size:=World.block_lt_of_cell? W _ j.ckb;have ar:h<W.heap.size:=World.block_lt_of_cell? W _ j.ccb;have ao:=j.bel.size;refine(Zic G n _ _ (Zac func152 (by kernel_rfl) rfl) W.heap.size x q (fun k w'=>DJ p es B x g h a (msE es ((Zas es x).take k)) w'/\Only (fun b=>b=a\/W.heap.size<=b) W w') (fun _ w'=>ZaN es x=true/\Only (fun b=>b=a\/W.heap.size<=b) W w') W (fun k w' c=>c.2.size) (fun k w' c=>c.1.bel) (fun k J w2 c f=>?_) (fun k ai J H u=>?_) ⟨j,Yak _ _⟩).mono ?_
  ·exact⟨⟨c.1.bel.trans (f.below c.1.bel.size (fun b (d:W.heap.size<=b)=>by omega)),c.1.kn.keep f (by show ¬W.heap.size<=a;omega) (fun b d=>by(show ¬W.heap.size<=b;omega)),f.cell c.1.ckb (by show ¬W.heap.size<=g;omega),f.cell c.1.ccb (by show ¬W.heap.size<=h;omega),c.1.no⟩,c.2.trans (f.mono (fun b _ d=>.inr d))⟩
  ·have Z:ai<es.length:=by
    rcases Yai.1 (Yaf H)with e|c
    ·rw[e];exact q
    ·obtain⟨e,Q⟩:∃e,es[x]?=some e:=⟨_,Yaa q⟩
     exact Zjr _ _ _ (by rw[Zbm Q];exact n.deep x e Q) ai c
   have O:=ZoR r ((Zas es x).take k);have au:=Znn n q;have ak:=n.len;rw[YaA]at O;refine(ZnR G n U r K x q ai Z (msE es ((Zas es x).take k)) g h a J (by omega) P aa (ZqS K _) (by omega) u.1).mono ?_;rintro ax w2⟨ab,s⟩;refine⟨ab.mono' (fun⟨az,m,I,ag⟩=>⟨ZlI H I ag,u.2.trans (s.mono (fun b _ d=>.inl d))⟩) (fun c=>⟨?_,u.2.trans (s.mono (fun b _ d=>.inl d))⟩),s.mono (fun b _ (d:b=a)=>by omega)⟩;rw[Zk3 H];exact c
  ·rintro e w'⟨b,rfl,ae,V⟩;have t:∀w',Only (fun b=>b=a\/W.heap.size<=b) W w'->Below w.heap.size w w':=fun w' f=>v.trans (f.below v.size (fun b d=>by have:=v.size;omega));cases b with
   |true=>
    obtain⟨_,_,c,f⟩:=ae rfl;exact⟨by rw[c],t w' f⟩
   |false=>
    have c:=(V rfl).1.no;rw[YaE]at c;exact⟨by rw[ZjO c],t w' (V rfl).2⟩)
 have z:∀W,W=((w.alloc (.cells #[entV B x] 77)).alloc (.map #[] 0)).alloc (.cells #[.map (some (w.heap.size+1))] 146)->DJ p es B x (w.heap.size+1+1) w.heap.size (w.heap.size+1) [] W/\Below w.heap.size w W:=fun W ac=>by
  subst ac;have ah:(w.alloc (.cells #[entV B x] 77)).heap.size=w.heap.size+1:=by simp
  have aj:((w.alloc (.cells #[entV B x] 77)).alloc (.map #[] 0)).heap.size=w.heap.size+1+1:=by simp
  have C:Below w.heap.size w (((w.alloc (.cells #[entV B x] 77)).alloc (.map #[] 0)).alloc (.cells #[.map (some (w.heap.size+1))] 146)):=Zaa (Zaa (Zaa (Yab _ _) _) _) _;have Y:=Box.new ((w.alloc (.cells #[entV B x] 77)).alloc (.map #[] 0)) #[.map (some (w.heap.size+1))] 146;rw[aj]at Y;have M:=MapF.new prog 9 (.agg #[.string ⟨#[]⟩,.slice none 0 0,.string ⟨#[]⟩,.bool false,.int .i64 0,.slice none 0 0,.slice none 0 0]) (w.alloc (.cells #[entV B x] 77));rw[ah]at M;refine⟨⟨y.trans (C.mono y.size),⟨0,_,_,M.keep ((Yak (fun _=>False) _).alloc _) id,Yad _,fun ad=>by simp,fun ad c=>by cases c⟩,Y.cell 0 rfl,((Box.new w #[entV B x] 77).below (Zaa (Zaa (Yab _ _) _) _)).cell 0 rfl,fun m I=>by cases I⟩,C⟩
 have D:=Hd z;generalize ZaN es x=R at l⊢;clear G n U r K q y z;go_enter func91,ntmps91
 go_upto_region 2 with fail;clear X;obtain⟨j,E⟩:=D.o _ rfl;have L:=Hd (l.o _ _ _ _ j (by omega) (by omega) (by omega) (by simp) E);have T:=j.ccb;clear j E D l;generalize ((w.alloc (.cells #[entV B x] 77)).alloc (.map #[] 0)).alloc (.cells #[.map (some (w.heap.size+1))] 146)=ay at L T⊢;go_wp2_with fail;refine L.o.mono ?_;rintro e J⟨rfl,F⟩;have N:=Hd F;clear F L T;go_wp2;go_ret;exact⟨rfl,N.o⟩
