/- laws -/
import Derived.Test.YtegljjbclladdaaGreatDoorK75
set_option maxRecDepth 100000
set_option maxHeartbeats 16000000
namespace Go.Proofs.YtegljjbclladdaaGreatDoor
open Go.RowKit Proofs.Tryz
structure OpM where
 e0:List (List UInt8)->Nat
 m:Nat
 bs:List (List UInt8)->Nat->Bool
 put:List (List UInt8)->List (List UInt8)->List (List UInt8)
 setl:Option Nat
def Zdz (m:Nat)(stk:List (List UInt8))(er:Nat):Nat:=reqE er (decide (m<=stk.length)) 72
def Zb7 (m:Nat)(stk:List (List UInt8))(er:Nat):List (List UInt8):=if Zdz m stk er=0 then stk.drop (stk.length-m)else List.replicate m []
def Zb4 (m:Nat)(stk:List (List UInt8))(er:Nat):List (List UInt8):=if Zdz m stk er=0 then stk.take (stk.length-m)else stk
def Zc2 (m:Nat)(a:List (List UInt8)->Nat->Bool)(stk:List (List UInt8))(er:Nat):Nat:=if Zdz m stk er=0 then errT (a (stk.drop (stk.length-m))) m else Zdz m stk er
def OpM.er (o:OpM)(stk loc:List (List UInt8)):Nat:=Zc2 o.m o.bs stk (o.e0 loc)
def OpM.stk (o:OpM)(stk loc:List (List UInt8)):List (List UInt8):=Zb4 o.m stk (o.e0 loc)++o.put (Zb7 o.m stk (o.e0 loc)) loc
def OpM.loc (o:OpM)(stk loc:List (List UInt8)):List (List UInt8):=match o.setl with
 |none=>loc
 |some n=>loc.set n ((Zb7 o.m stk (o.e0 loc)).getD 0 [])
theorem Zee {m:Nat}{stk:List (List UInt8)}{er:Nat}(b:Zdz m stk er=0):er=0/\m<=stk.length:=by
 unfold Zdz reqE at b;by_cases a:er=0/\decide (m<=stk.length)=false
 ·rw[Yay a]at b;cases b
 ·rw[Yar a]at b;refine⟨b,?_⟩;by_cases c:m<=stk.length
  ·exact c
  ·exact absurd ⟨b,Yan c⟩ a
theorem Zli {m:Nat}{stk:List (List UInt8)}(a:m<=stk.length):Zdz m stk 0=0:=by
 unfold Zdz reqE;rw[Yas a];rfl
theorem Zm4 {m:Nat}{c:List (List UInt8)->Nat->Bool}{stk:List (List UInt8)}{er:Nat}(b:Zc2 m c stk er=0):er=0/\m<=stk.length/\errT (c (stk.drop (stk.length-m))) m=0:=by
 unfold Zc2 at b;by_cases a:Zdz m stk er=0
 ·rw[Yay a]at b;exact⟨(Zee a).1,(Zee a).2,b⟩
 ·rw[Yar a]at b;exact absurd b a
theorem Zjl (m:Nat)(stk:List (List UInt8))(er:Nat):(Zb7 m stk er).length=m:=by
 unfold Zb7;by_cases a:Zdz m stk er=0
 ·rw[Yay a,Ybr];have:=(Zee a).2;omega
 ·rw[Yar a,Ybm]
theorem ZkL {stk loc:List (List UInt8)}{er:Nat}(b:(doR stk loc er).2=0):er=0/\stk.length<=24/\(doR stk loc er).1=⟨true,stk,loc⟩:=by
 unfold doR at b⊢;by_cases a:er≠0
 ·rw[Yay a]at b;exact absurd b a
 ·rw[Yar a]at b⊢;by_cases c:24<stk.length
  ·rw[Yay c]at b;cases b
  ·rw[Yar c];exact⟨by omega,by omega,rfl⟩
def OpM.Even (o:OpM)(a:Nat):Prop:=∀t loc,t.length=o.m->(o.put t loc).length=a
def OpM.res (o:OpM)(s:Shp):Shp×Nat:=doR (o.stk s.stk s.loc) (o.loc s.stk s.loc) (o.er s.stk s.loc)
theorem OpM.at_ok {o:OpM}{s:Shp}(j:(o.res s).2=0):o.e0 s.loc=0/\o.m<=s.stk.length/\errT (o.bs (s.stk.drop (s.stk.length-o.m))) o.m=0/\
  (o.res s).1=⟨true,s.stk.take (s.stk.length-o.m)++o.put (s.stk.drop (s.stk.length-o.m)) s.loc,(match o.setl with|none=>s.loc|some n=>s.loc.set n ((s.stk.drop (s.stk.length-o.m)).getD 0 []))⟩/\(s.stk.take (s.stk.length-o.m)++o.put (s.stk.drop (s.stk.length-o.m)) s.loc).length<=24:=by
 obtain⟨h,b,a⟩:=ZkL j;obtain⟨d,g,i⟩:=Zm4 h;have c:Zdz o.m s.stk (o.e0 s.loc)=0:=by rw[d];exact Zli g
 have f:Zb7 o.m s.stk (o.e0 s.loc)=s.stk.drop (s.stk.length-o.m):=by unfold Zb7;rw[Yay c]
 have es:Zb4 o.m s.stk (o.e0 s.loc)=s.stk.take (s.stk.length-o.m):=by unfold Zb4;rw[Yay c]
 unfold OpM.stk at b;unfold OpM.stk OpM.loc at a;unfold OpM.res OpM.stk OpM.loc;rw[f,es]at b a;rw[f,es];exact⟨d,g,i,a,b⟩
theorem OpM.len {o:OpM}{c:Nat}(a:o.Even c){s:Shp}(f:(o.res s).2=0):(o.res s).1.stk.length+o.m=s.stk.length+c/\(o.res s).1.loc.length=s.loc.length/\(o.res s).1.seen=true:=by
 obtain⟨_,d,_,b,_⟩:=o.at_ok f;rw[b];refine⟨?_,?_,rfl⟩
 ·show(s.stk.take (s.stk.length-o.m)++o.put (s.stk.drop (s.stk.length-o.m)) s.loc).length+o.m=_;rw[Yal,YaA,a _ _ (by rw[Ybr];omega)];omega
 ·show(match o.setl with|none=>s.loc|some n=>s.loc.set n ((s.stk.drop (s.stk.length-o.m)).getD 0 [])).length=_;cases o.setl with
  |none=>rfl
  |some n=>exact YbT
theorem StW.under {t lo:Nat}{p:Nat->Option Value}{c W f:World}{stk loc:List (List UInt8)}{er:Nat}(b:StW t lo p c W stk loc er)(a:Below W.heap.size W f):StW t lo p c f stk loc er:=by
 obtain⟨cs,sv,k,h,m,j,q,n,r,s,i,l,d,g⟩:=b.ex;exact⟨⟨cs,sv,k,h,m,j,q,n,r.below a,s.below a,i.below a,l,d,g⟩,Yaj b.lo1 a.size,b.lo2,b.lo3,b.bel.trans (a.mono b.bel.size)⟩
theorem StW.lt {c lo:Nat}{p:Nat->Option Value}{a W:World}{stk loc:List (List UInt8)}{er:Nat}(d:StW c lo p a W stk loc er):c<W.heap.size:=by
 obtain⟨_,_,_,_,_,_,_,_,b,_⟩:=d.ex;exact b.lt
theorem StW.cell {h lo:Nat}{p:Nat->Option Value}{c W:World}{stk loc:List (List UInt8)}{er:Nat}(i:StW h lo p c W stk loc er)(a:Nat)(g:a<11){v:Value}(b:p a=some v):W.cell? ⟨h,a,none⟩=some v:=by
 obtain⟨_,_,_,_,d,_,_,_,f,_⟩:=i.ex;exact f.cell a (by rw[d a g];exact b)
theorem ZaG {cs:Array Value}{i a:Nat}{v:Value}(b:i≠a):(cs.setIfInBounds i v)[a]?=cs[a]?:=by
 rw[YaD,Yar b]
theorem ZdM {d lo:Nat}{p:Nat->Option Value}{t W:World}{stk loc:List (List UInt8)}{er:Nat}(j:StW d lo p t W stk loc er)(b:Bool)(e:Nat) :
  Calls prog 19 #[.pointer (some ⟨d,0,none⟩),.bool b,.int .i64 (e:Nat)] W (fun en a=>en=.returned (.tuple #[])/\StW d lo p t a stk loc (reqE er b e)/\Below lo W a/\Only (fun i=>i=d) W a/\a.cell? ⟨d,12,none⟩=W.cell? ⟨d,12,none⟩):=by
 obtain⟨cs,sv,q,y,z,B,k,u,n,A,v,r,h,s⟩:=j.ex;refine(Zch d er e b cs W n u).mono (fun en a ⟨w,m,x⟩=>?_);have f:Only (fun i=>i=d) W a:=by
  rcases x with rfl|rfl
  ·exact Yak _ _
  ·exact(Yak (fun i=>i=d) W).setCell (p:=⟨d,13,none⟩) rfl _
 have c:Below lo W a:=f.below j.lo1 (fun i e=>by rw[e];exact j.lo3);refine⟨w,⟨⟨_,sv,q,by simp[y],fun D C=>?_,?_,?_,ZdP u,m,A.keep f (fun g l e=>r (e▸l)),v.keep f (fun g l e=>h (e▸l)),r,h,s⟩,Yaj j.lo1 c.size,j.lo2,j.lo3,j.bel.trans (c.mono j.lo2)⟩,c,f,?_⟩
 ·rw[ZaG (by omega)];exact z D C
 ·rw[ZaG (by decide)];exact B
 ·rw[ZaG (by decide)];exact k
 ·rw[m.cell 12 (show _=some q by rw[ZaG (by decide)];exact k),n.cell 12 k]
theorem ZcK {h lo:Nat}{p:Nat->Option Value}{a W:World}{stk loc:List (List UInt8)}{er:Nat}(i:StW h lo p a W stk loc er)(b:Bool)(e:Nat) :
  Calls prog 19 #[.pointer (some ⟨h,0,none⟩),.bool b,.int .i64 (e:Nat)] W (fun en c=>en=.returned (.tuple #[])/\StW h lo p a c stk loc (reqE er b e)/\Below lo W c):=
 (ZdM i b e).mono (fun _ _ ⟨d,g,f,_⟩=>⟨d,g,f⟩)
theorem Zk9 {m lo:Nat}{p:Nat->Option Value}{u W:World}{stk loc l:List (List UInt8)}{er:Nat}{j:Value}{A:Nat->Prop}(c:StW m lo p u W stk loc er)(K:Src 1 StrR A W j l)(E:∀sv,W.cell? ⟨m,11,none⟩=some sv->∀i,A i->i≠m/\sv.ownBlock≠some i)(N:stk.length+l.length<=1048576)(z:∀x∈l,x.length<=281474976710656) :
  Calls prog 101 #[.pointer (some ⟨m,0,none⟩),j] W (fun en d=>en=.returned (.tuple #[])/\StW m lo p u d (stk++l) loc er/\Below lo W d):=by
 obtain⟨cs,sv,C,r,G,k,B,J,q,t,n,H,f,h⟩:=c.ex;refine(Zi6 m lo cs sv j stk l W _ q r k t c.lo1 H K (E sv (q.cell 11 k)) N z).mono (fun en d ⟨v,y,D,I,F,s,w⟩=>?_);have a:Below lo W d:=s.below c.lo1 (fun i e=>by
  rcases e with e|e
  ·rw[e];exact c.lo3
  ·exact(t.own i e).1)
 refine⟨v,⟨⟨_,y,C,by simp[r],fun Q M=>?_,ZdP k,?_,?_,D,I,n.keep s (fun g b e=>?_),F,f,fun g b e=>?_⟩,Yaj c.lo1 a.size,c.lo2,c.lo3,c.bel.trans (a.mono c.lo2)⟩,a⟩
 ·rw[ZaG (by omega)];exact G Q M
 ·rw[ZaG (by decide)];exact B
 ·rw[ZaG (by decide)];exact J
 ·rcases e with e|e
  ·exact f (e▸b)
  ·exact h g e b
 ·rcases w with L|L
  ·exact h g (L▸b) e
  ·have O:=L g b;have P:=(n.own g e).2;omega
theorem ZsF {t lo:Nat}{p:Nat->Option Value}{f b W:World}{stk loc l:List (List UInt8)}{er:Nat}{h:Value}(a:StW t lo p f b stk loc er)(c:Below b.heap.size b W)(r:Src 1 StrR (fun i=>i<lo\/b.heap.size<=i) W h l)(s:stk.length+l.length<=1048576)(j:∀x∈l,x.length<=281474976710656) :
  Calls prog 101 #[.pointer (some ⟨t,0,none⟩),h] W (fun en d=>en=.returned (.tuple #[])/\StW t lo p f d (stk++l) loc er/\Below lo W d):=by
 obtain⟨cs,sv,C,B,E,q,A,H,k,n,z,F,w,y⟩:=a.ex;have G:=a.lt;have u:=a.lo3;refine Zk9 (a.under c) r (fun v g i D=>?_) s j;have m:=(k.below c).cell 11 q;rw[m]at g;obtain rfl:=Yac g;refine⟨by omega,fun e=>?_⟩;have:=n.own i e;omega
theorem Zpu {w:World}{g m lo:Nat}(d:MRow w g m 9 (List.replicate m (.string ⟨#[]⟩)))(a:lo<=g):Src 1 StrR (fun k=>lo<=k) w (.slice (some ⟨g,0,none⟩) m m) (List.replicate m []):=by
 have c:KR lo w (.slice (some ⟨g,0,none⟩) m m) (List.replicate m []):=by
  unfold KR KRF;rw[Ybm,Ycm];exact Zfw d (fun i b=>by obtain rfl:g=i:=Yac b;exact a)
 exact c.src Za2
theorem Zrt (f Z m Y er j n Q:Nat)(T:Option Addr)(cs:Array Value)(w:World)(L:Box w f cs 58)(H:cs[11]?=some (.slice T n Q))(y:cs[13]?=some (.int .i64 (er:Nat)))(ad:m<=1048576)(ae:n<=1048576)(R:j=reqE er (decide (m<=n)) 72)(W:j≠0) :
  Calls prog 103 #[.pointer (some ⟨f,0,none⟩),.slice (some ⟨Z,0,none⟩) m Y] w (fun e w'=>∃K,e=.returned K/\Src 1 StrR (fun k=>w.heap.size<=k) w' K (List.replicate m [])/\Box w' f (cs.setIfInBounds 13 (.int .i64 (j:Nat))) 58/\Only (fun i=>i=f) w w'/\∃c,K=.slice (some ⟨w.heap.size,0,none⟩) m c/\∀U,w'.frozen? ⟨w.heap.size,U,none⟩=false):=by
 obtain⟨X,E,F,I,C⟩:=info_parts ZcS;obtain⟨d,ac,x,t⟩:=Zcq (P:=prog) 22 9 X (.string ⟨#[]⟩) underlying22 E F I rfl m (by rw[C];omega) (by unfold maxLen;omega) w;have v:=L.below t;have D:d.cell? ⟨f,11,none⟩=some (.slice T n Q):=v.cell 11 H;have z:Hid (∀b:Bool,b=decide (m<=n)->Calls prog 19 #[.pointer (some ⟨f,0,none⟩),.bool b,.int .i64 72] d (fun en w'=>en=.returned (.tuple #[])/\Box w' f (cs.setIfInBounds 13 (.int .i64 (j:Nat))) 58/\(w'=d\/w'=d.setCell ⟨f,13,none⟩ (.int .i64 (j:Nat))))):=Hd (fun b M=>by
  have ab:=Zch f er 72 b cs d v y;rw[M,←R]at ab;rw[M];exact ab)
 have h:=Hd x;have J:=Hd t;have B:=Hd y;have N:=L.lt;have A:=Hd N;have aa:¬((j:Int)=0):=by omega
 clear L H y R W x v E F I C t N;by_cases G:m<=n
 ·have O:(0:Int)<=(n:Int)-(m:Int):=by omega
  have q:decide (m<=n)=true:=Yas G;have s:=Hd (z.o true q.symm);clear z q;go_enter func103,ntmps103
  go_wp2_with fail;with_reducible refine s.o.mono ?_
  rintro e w2⟨rfl,a,r⟩;have V:=a.cell 13 (ZdP B.o);have l:=Hd a;have u:Only (fun i=>i=f) d w2:=by
   rcases r with rfl|rfl
   ·exact Yak _ _
   ·exact(Yak (fun i=>i=f) d).setCell (p:=⟨f,13,none⟩) rfl _
  have g:=Hd u;clear a r u D;go_wp2;go_ret;exact⟨_,rfl,Zpu (h.o.keep g.o (fun e=>by have:=A.o;omega)) (Yad _),l.o,(Yae (S:=fun i=>i=f) J.o).trans g.o,_,rfl,fun U=>(h.o.keep g.o (fun e=>by have:=A.o;omega)).free U⟩
 ·have O:¬(0:Int)<=(n:Int)-(m:Int):=by omega
  have q:decide (m<=n)=false:=Yan G;have s:=Hd (z.o false q.symm);clear z q;go_enter func103,ntmps103
  go_wp2_with fail;with_reducible refine s.o.mono ?_
  rintro e w2⟨rfl,a,r⟩;have V:=a.cell 13 (ZdP B.o);have l:=Hd a;have u:Only (fun i=>i=f) d w2:=by
   rcases r with rfl|rfl
   ·exact Yak _ _
   ·exact(Yak (fun i=>i=f) d).setCell (p:=⟨f,13,none⟩) rfl _
  have g:=Hd u;clear a r u D;go_wp2;go_ret;exact⟨_,rfl,Zpu (h.o.keep g.o (fun e=>by have:=A.o;omega)) (Yad _),l.o,(Yae (S:=fun i=>i=f) J.o).trans g.o,_,rfl,fun U=>(h.o.keep g.o (fun e=>by have:=A.o;omega)).free U⟩
def Tk7G (f:Nat)(r:Nat->Prop)(h lo:Nat)(p:Nat->Option Value)(j:World)(m:Nat)(l:List (List UInt8)->Nat->Bool)(stk loc:List (List UInt8))(er:Nat)(n:World->Prop)(W:World)(e:Ending)(a:World):Prop:=
 ∃b,e=.returned b/\Src 1 StrR (fun k=>W.heap.size<=k) a b (Zb7 m stk er)/\(∀V,Only (fun i=>f<=i) a V->StW h lo p j V (Zb4 m stk er) loc (Zc2 m l stk er))/\(Zdz m stk er=0->n a)/\Below lo W a/\a.cell? ⟨h,12,none⟩=W.cell? ⟨h,12,none⟩/\(∀d,a.cell? ⟨h,11,none⟩=some d->(∀g,d.ownBlock=some g->g<f))/\∃c,b=.slice (some ⟨W.heap.size,0,none⟩) m c/\(∀q,a.frozen? ⟨W.heap.size,q,none⟩=false)/\Only (fun i=>i<f\/r i) W a/\(Zdz m stk er≠0->Only (fun i=>i<f) W a)
theorem Zh3 {R lo:Nat}{p:Nat->Option Value}{az A W:World}{stk loc:List (List UInt8)}{er:Nat}(r:StW R lo p az A stk loc er)(c:Below A.heap.size A W)(U:stk.length<=1048576)(D ah m:Nat)(a:List Zln)(B:List (List UInt8)->Nat->Bool)(I:Nat->World->Prop)(av:Nat->Prop)(ar:m=a.length)(au:1<=a.length)(aD:a.length<=1048576)
  (aC:∀i t,a[i]?=some t->W.cell? ⟨D,i,none⟩=some (.func (.func t.F) t.first t.caps))(aI:A.heap.size<=D)
  (aG:∀t∈a,∀args w,(callFunc t.F args).run prog w=.ok (.enter t.F args) w)(ay:I 0 W)(aB:∀i V G,I i V->Below V.heap.size V G->I i G)(aw:∀i V v,I i V->I i (V.setCell ⟨R,13,none⟩ v)/\I i (V.setCell ⟨R,11,none⟩ v))
  (M:a.length<=stk.length->∀i t s,a[i]?=some t->stk[stk.length-a.length+i]?=some s->∀V,I i V->Calls prog t.F (t.first.push (.string (S s))++t.caps) V (fun e G=>e=.returned (.bool (B (stk.drop (stk.length-a.length)) i))/\I (i+1) G/\Only av V G))
  (Z:∀k,av k->A.heap.size<=k/\k≠D/\k<W.heap.size) :
  Calls prog 103 #[.pointer (some ⟨R,0,none⟩),.slice (some ⟨D,0,none⟩) m ah] W (Tk7G A.heap.size av R lo p az m B stk loc er (I m) W):=by
 subst ar;obtain⟨cs,sv,N,ae,ax,C,z,P,L,n,E,O,y,X⟩:=r.ex;have am:=r.lt;have aK:=c.size;have q:=r.under c;have T:=r.lo3;by_cases d:Zdz a.length stk er=0
 ·obtain⟨rfl,Y⟩:=Zee d;refine(Zlh R lo D ah cs sv stk a (B (stk.drop (stk.length-a.length))) I av W (L.below c) ae C P (n.below c) O au Y U aC (by omega) aG ay aB aw (M Y) (fun k aF=>?_)).mono (fun en J ⟨ai,Q,aa,ag,x,u,l,aE,ap,al⟩=>?_)
  ·have:=Z k aF;refine⟨by omega,this.2.1,fun e=>?_,this.2.2⟩;have:=n.own k e;omega
  ·have aj:∀i,(i=R\/av i)->lo<=i/\i<W.heap.size:=fun i e=>by
    rcases e with e|e
    ·rw[e];exact⟨T,by omega⟩
    ·have:=Z i e;have:=r.lo1;omega
   have f:Below lo W J:=ap.below q.lo1 (fun i e=>(aj i e).1);have ad:Zb7 a.length stk 0=stk.drop (stk.length-a.length):=by unfold Zb7;rw[Yay d]
   have ab:Zb4 a.length stk 0=stk.take (stk.length-a.length):=by unfold Zb4;rw[Yay d]
   have ac:Zc2 a.length B stk 0=errT (B (stk.drop (stk.length-a.length))) a.length:=by unfold Zc2;rw[Yay d]
   refine⟨ai,aa,by rw[ad];exact ag,fun V h=>?_,fun _=>aE,f,?_,fun aA K g b=>?_,al.choose,al.choose_spec.1,al.choose_spec.2,ap.mono (fun i _ e=>by rcases e with e|e;exact .inl (by rw[e];exact am);exact .inr e),fun q=>absurd d q⟩
   ·have H:Below lo J V:=h.below (Yaj q.lo1 f.size) (fun i e=>Yaj r.lo1 e);have j:=f.trans H;have ao:KR lo V Q (Zb4 a.length stk 0):=by
     rw[ab];exact u.keep h (fun g b e=>by have:=(n.own g (l▸b)).2;omega)
    refine⟨⟨_,Q,N,by simp[ae],fun aH aq=>?_,?_,?_,?_,x.keep h (by omega),ao,((E.below c).keep ap (fun g b e=>?_)).keep h (fun g b e=>?_),by rw[l];exact O,y,fun g b=>X g (l▸b)⟩,Yaj q.lo1 j.size,q.lo2,q.lo3,q.bel.trans (j.mono q.lo2)⟩
    ·rw[ZaG (by omega),ZaG (by omega)];exact ax aH aq
    ·rw[ZaG (by decide)];exact ZdP C
    ·rw[ZaG (by decide),ZaG (by decide)];exact z
    ·rw[ac];exact ZdP (show(cs.setIfInBounds 11 Q)[13]?=_ by rw[ZaG (by decide)];exact P)
    ·have aJ:=E.own g b;rcases e with e|e
     ·exact y (e▸b)
     ·have:=Z g e;omega
    ·have:=(E.own g b).2;omega
   ·rw[x.cell 12 (show _=some N by rw[ZaG (by decide),ZaG (by decide)];exact z),(L.below c).cell 12 z]
   ·rw[x.cell 11 (show _=some Q by rw[ZaG (by decide)];exact ZdP C)]at K;obtain rfl:=Yac K;have:=(n.own g (l▸b)).2;omega
 ·obtain⟨ak,af,rfl⟩:=n.shape;refine(Zrt R D a.length ah er (Zdz a.length stk er) stk.length af ak cs W (L.below c) C P aD U rfl d).mono (fun en J ⟨ai,aa,ag,x,u,l⟩=>?_);have aj:∀i,i=R->lo<=i/\i<W.heap.size:=fun i e=>by rw[e];exact⟨T,by omega⟩
  have f:Below lo W J:=u.below q.lo1 (fun i e=>(aj i e).1);have ad:Zb7 a.length stk er=List.replicate a.length []:=by unfold Zb7;rw[Yar d]
  have ab:Zb4 a.length stk er=stk:=by unfold Zb4;rw[Yar d]
  have ac:Zc2 a.length B stk er=Zdz a.length stk er:=by unfold Zc2;rw[Yar d]
  refine⟨ai,aa,by rw[ad];exact ag,fun V h=>?_,fun e=>absurd e d,f,?_,fun aA K g b=>?_,l.choose,l.choose_spec.1,l.choose_spec.2,u.mono (fun i _ e=>.inl (by rw[e];exact am)),fun _=>u.mono (fun i _ e=>by rw[e];exact am)⟩
  ·have H:Below lo J V:=h.below (Yaj q.lo1 f.size) (fun i e=>Yaj r.lo1 e);have j:=f.trans H;have ao:KR lo V (.slice ak stk.length af) (Zb4 a.length stk er):=by
    rw[ab];exact((n.below c).keep u (fun g b e=>O (e▸b))).keep h (fun g b e=>by have:=(n.own g b).2;omega)
   refine⟨⟨_,_,N,by simp[ae],fun aH aq=>?_,?_,?_,by rw[ac];exact ZdP P,x.keep h (by omega),ao,((E.below c).keep u (fun g b e=>y (e▸b))).keep h (fun g b e=>?_),O,y,X⟩,Yaj q.lo1 j.size,q.lo2,q.lo3,q.bel.trans (j.mono q.lo2)⟩
   ·rw[ZaG (by omega)];exact ax aH aq
   ·rw[ZaG (by decide)];exact C
   ·rw[ZaG (by decide)];exact z
   ·have:=(E.own g b).2;omega
  ·rw[x.cell 12 (show _=some N by rw[ZaG (by decide)];exact z),(L.below c).cell 12 z]
  ·rw[x.cell 11 (show _=some (.slice ak stk.length af)by rw[ZaG (by decide)];exact C)]at K;obtain rfl:=Yac K;have:=(n.own g b).2;omega
def Zfr (es:List Ent)(a:List (List UInt8))(t:List (List UInt8))(i:Nat):Bool:=subE es (t.getD i []) (a.getD i [])
theorem Zbx {A:Nat->Prop}{B:Nat->Nat}{L X:Nat}{es:List Ent}{d:World}(P:Tab A d L X B es)(Z:Shape es){r lo:Nat}{p:Nat->Option Value}{f W:World}{stk loc:List (List UInt8)}{er:Nat}(u:StW r lo p d f stk loc er)(z:Below f.heap.size f W)(D:stk.length<=1048576)(n G m:Nat)(l:List (Nat×Nat×List UInt8))(C:m=l.length)(F:1<=l.length)(I:l.length<=1048576)
  (J:∀i b,l[i]?=some b->W.cell? ⟨n,i,none⟩=some (.func (.func 169) #[] #[.pointer (some ⟨b.1,0,none⟩),.pointer (some ⟨b.2.1,0,none⟩)]))(K:f.heap.size<=n)(E:Stands d L r l W)(U:∀b∈l,b.2.2.length<=9223372036854775807)(Y:∀x∈stk,x.length<=9223372036854775807) :
  Calls prog 103 #[.pointer (some ⟨r,0,none⟩),.slice (some ⟨n,0,none⟩) m G] W (Tk7G f.heap.size (fun _=>False) r lo p d m (Zfr es (l.map fun b=>b.2.2)) stk loc er (Stands d L r l) W):=by
 have a:(l.map subT).length=l.length:=YaB ..;have q:d.heap.size<=r:=Yaj u.lo2 u.lo3;refine Zh3 u z D n G m (l.map subT) (Zfr es (l.map fun b=>b.2.2)) (fun _ V=>Stands d L r l V) (fun _=>False) (by rw[a];exact C) (by rw[a];exact F) (by rw[a];exact I)
  (fun i t c=>?_) K (fun t c=>?_) E (fun _ V R y M=>y.below M) (fun _ V v y=>⟨y.set q 13 (by decide) v,y.set q 11 (by decide) v⟩) (fun ad i t s c w V k=>?_) (fun _ y=>y.elim)
 ·rw[Yav]at c;obtain⟨b,g,rfl⟩:=YaO.1 c;exact J i b g
 ·obtain⟨b,_,rfl⟩:=Ya2.1 c;exact Zac func169 (by kernel_rfl) rfl
 ·rw[a]at w⊢;rw[Yav]at c;obtain⟨b,g,rfl⟩:=YaO.1 c;obtain⟨j,h,o⟩:=b;obtain⟨_,_,Q,O⟩:=k.box j h o (Yaf g);have aa:=Zgu P Z r j h o s V k.bel (U _ (Yaf g)) (Y s (Yaf w)) (Q.cell 0 rfl) (O.cell 0 rfl) k.tab;have N:(stk.drop (stk.length-l.length)).getD i []=s:=by rw[Yap,Ybo,w];rfl
  have T:(l.map fun b=>b.2.2).getD i []=o:=by rw[Yap,Yav,g];rfl
  unfold Zfr;rw[N,T];have ab:((subT (j,h,o)).first.push (Value.string (S s))++(subT (j,h,o)).caps)=#[.string (S s),.pointer (some ⟨j,0,none⟩),.pointer (some ⟨h,0,none⟩)]:=by simp[subT]
  rw[ab];exact aa.mono (fun e R ⟨ac,H⟩=>⟨ac,k.below H,Yae H⟩)
theorem Zrn {W:World}{b n:Nat}{t:TypeId}(xs:List (List UInt8))(cs:Array Value)(f:cs=(xs.map strV).toArray)(h:n=xs.length)(l:xs.length<=1000)(j:Box W b cs t):Src 1 StrR (fun k=>k=b) W (.slice (some ⟨b,0,none⟩) n n) xs:=by
 subst f h;refine .inr ⟨b,0,xs.length,rfl,⟨rfl,j.lt,Yad _,by omega⟩,fun k x g=>⟨strV x,rfl,rfl,fun i u c=>?_⟩⟩;have a:i=0:=by have:i<(strV x).cells.size:=(Ybb.1 c).1;simp[Value.cells]at this;exact this
 subst a;have d:u=strV x:=by simpa[Value.cells]using c.symm
 subst d;refine j.cell _ ?_;rw[YaH,YbO,Ya6,List.getElem?_toArray,Yav,g];rfl
theorem ZaY {m lo n:Nat}{p:Nat->Option Value}{c W:World}{stk loc:List (List UInt8)}{er:Nat}(q:StW m lo p c W stk loc er)(xs:List (List UInt8))(cs:Array Value)(f:cs=(xs.map strV).toArray)(l:n=xs.length)(g:xs.length<=1000)(r:stk.length<=1000000)(j:∀x∈xs,x.length<=281474976710656)(t:TypeId) :
  Calls prog 101 #[.pointer (some ⟨m,0,none⟩),.slice (some ⟨W.heap.size,0,none⟩) n n] (W.alloc (.cells cs t)) (fun en a=>en=.returned (.tuple #[])/\StW m lo p c a (stk++xs) loc er/\Below lo W a):=by
 have b:Below W.heap.size W (W.alloc (.cells cs t)):=Zaa (Yab _ _) _;refine(ZsF q b (StrR.st.srcMono (Zrn xs cs f l g (Box.new W cs t)) (fun k _ e=>.inr (by rw[e];exact Yad _))) (by omega) j).mono (fun en a ⟨d,i,h⟩=>⟨d,i,(b.mono q.lo1).trans h⟩)
def OpG (c lo:Nat)(p:Nat->Option Value)(b:World)(o:OpM)(stk loc:List (List UInt8))(W:World)(e:Ending)(a:World):Prop:=e=.returned (.tuple #[])/\StW c lo p b a (o.stk stk loc) (o.loc stk loc) (o.er stk loc)/\Below lo W a
def ZbE (es:List Ent)(a put:List (List UInt8)):OpM:=⟨fun _=>0,a.length,Zfr es a,fun _ _=>put,none⟩
theorem Zru {stk:List (List UInt8)}{er:Nat}:Zdz 0 stk er=er:=by unfold Zdz reqE;rw[Yar (fun b=>by have a:=b.2;simp at a)]
theorem Zcm {stk:List (List UInt8)}{er:Nat}:Zb4 0 stk er=stk:=by
 unfold Zb4;rw[Nat.sub_zero,YaE];split<;>rfl
theorem Zbh (m:Nat)(stk:List (List UInt8))(er:Nat):(Zb4 m stk er).length<=stk.length:=by
 unfold Zb4;split
 ·rw[YaA];omega
 ·exact Yad _
theorem Zcl {a:List (List UInt8)->Nat->Bool}{stk:List (List UInt8)}{er:Nat}:Zc2 0 a stk er=er:=by
 unfold Zc2;rw[Zru];split
 ·rename_i b;rw[b];rfl
 ·rfl
