/- laws -/
import Derived.Test.YtegljjbclladdaaGreatDoorK28
set_option maxRecDepth 100000
set_option maxHeartbeats 16000000
namespace Go.Proofs.YtegljjbclladdaaGreatDoor
open Go.RowKit Tryz
def upAt (es:List Ent)(x:Nat):Option Nat:=match es[x]? with|some e=>e.up|none=>none
def Zcz (es:List Ent)(x:Nat):Bool:=match es[x]? with|some e=>e.cls.abs|none=>false
theorem Zcw {es:List Ent}{x:Nat}{e:Ent}(a:es[x]?=some e):upAt es x=e.up:=by unfold upAt;rw[a]
theorem Zhg {es:List Ent}{x:Nat}{e:Ent}(a:es[x]?=some e):Zcz es x=e.cls.abs:=by unfold Zcz;rw[a]
theorem Zcr {es:List Ent}{x:Nat}{e:Ent}(a:es[x]?=some e):Zal es x=e.cls.mths:=by unfold Zal;rw[a]
theorem ZfG {es:List Ent}:∀ {L a:List Nat} {o:Option Nat},ZdA es L o->ZdA es a o->L=a
 |[],[],_,_,_=>rfl
 |[],j::m,_,h,⟨k,_⟩=>by rw[show _=none from h]at k;cases k
 |i::l,[],_,⟨h,_⟩,k=>by rw[show _=none from k]at h;cases h
 |i::l,j::m,_,⟨h1,e,h2,h3⟩,⟨k1,e',k2,k3⟩=>by
  obtain rfl:=Yac (h1.symm.trans k1);obtain rfl:=Yac (h2.symm.trans k2);rw[ZfG h3 k3]
theorem ZgY {es:List Ent}(b:Shape es)(d:∀(i:Nat) (e:Ent) (c:Nat),es[i]?=some e->e.up=some c->c<es.length){x:Nat}{e:Ent}(a:es[x]?=some e):Zan es (some x)=x::Zan es e.up:=
 ZfG (b.line (some x) (fun i g=>by obtain rfl:=Yac g;exact(Yag.1 a).1)) ⟨rfl,e,a,b.line e.up (fun c f=>d x e c a f)⟩
def absM (es:List Ent)(x:Nat)(n:List UInt8):Bool:=match Zbt es (some x) n with|some a=>a.2.abs|none=>false
def Zb1 (es:List Ent)(x a:Nat):Bool:=(Zal es a).any fun m=>absM es x m.name
def Zb9 (es:List Ent)(x:Nat):Bool:=!Zcz es x&&((Zas es x).any (Zb1 es x) || ((Zan es (upAt es x)).takeWhile (Zcz es)).any fun d=>(Zas es d).any (Zb1 es x))
theorem ZoI {A A':Nat->Prop}{B:Nat->Nat}{U H:Nat}{es:List Ent}{g:World}(p:Tab A g U H B es)(s:Shape es)(h:∀i,(Zal es i).length<=9223372036854775807)(x:Nat)(M:x<es.length)(m:Mth)(v:Value)(c:Nat)(w:World)(f:Below g.heap.size g w)
  (q:MthR A' w m v)(Q:w.cell? ⟨c,0,none⟩=some (entV B x))(a:(Zbt es (some x) m.name).isSome=true) :
  Calls prog 157 #[v,.pointer (some ⟨c,0,none⟩)] w (Said (absM es x m.name) w):=by
 obtain⟨⟨i,N⟩,a⟩:=YaL.1 a;obtain⟨_,_,_,rfl,⟨I,C,rfl⟩,⟨L,F,rfl⟩,⟨D,J,rfl⟩⟩:=Zaj q;have u:Hid (∀W,Below w.heap.size w W->Calls prog 158 #[entV B x,.string (S m.name)] W (Zp4 A B g (some (i,N)) W)):=Hd (fun W z=>by
  have T:=ZhG p s h (some x) (fun i K=>by obtain rfl:=Yac K;exact M) m.name W (f.trans (z.mono f.size));rw[a]at T;exact T)
 have y:∀o:Obj,(w.alloc o).cell? ⟨c,0,none⟩=some (entV B x):=fun o=>((Yak (fun _=>False) w).alloc o).cell Q id;have t:absM es x m.name=N.abs:=by unfold absM;rw[a]
 have r:=Hd f;rw[t];clear p s h f q Q a t;go_enter func157,ntmps157
 go_wp2_with fail;refine(u.o _ ((Yab _ w).alloc (Yad _) _)).mono ?_;rintro e E⟨O,R,rfl,G,k⟩;obtain⟨_,d⟩:=G;obtain⟨b,o,v,d,j,_,P,n⟩:=d;obtain rfl:=Value.pointer.inj d;obtain⟨_,_,_,rfl,_,_,_⟩:=Zaj j;have l:=Hd (((Yab _ w).alloc (Yad _) (.cells #[.string (S m.name),.slice I m.params.length C,.string (S m.res),.bool m.abs,.int .i64 m.loc,.slice L m.code.length F,.slice D m.cats.length J] 26)).trans (k.mono (by simp)));have V:E.cell? ⟨b,o+3,none⟩=some (.bool N.abs):=(Yae (S:=fun _=>False) (r.o.trans (l.o.mono r.o.size))).cell (n 3 _ rfl) id;clear n k y u j;go_wp2;go_ret;exact⟨rfl,l.o⟩
theorem ZoH {A:Nat->Prop}{B:Nat->Nat}{K H:Nat}{es:List Ent}{q:World}(j:Tab A q K H B es)(y:Shape es)(b:∀i,(Zal es i).length<=9223372036854775807)(x:Nat)(C:x<es.length)(f:Nat)(u:f<es.length)(c:Nat)(w:World)(l:Below q.heap.size q w)
  (I:w.cell? ⟨c,0,none⟩=some (entV B x))(p:∀m∈Zal es f,(Zbt es (some x) m.name).isSome=true) :
  Calls prog 156 #[entV B f,.pointer (some ⟨c,0,none⟩)] w (Said (Zb1 es x f) w):=by
 have J:=Ymf;obtain⟨e,n⟩:∃e,es[f]?=some e:=⟨_,Yaa u⟩
 obtain⟨M,N,t,sv,s,_,_,r,_⟩:=(j.below l).ent f e n;have a:=Zcr n;rw[a]at p;have z:w.cell? ⟨B f,8,none⟩=some t:=s.cell 8 rfl;have d:=Hd (Zdn (A:=A) 157 #[.pointer (some ⟨c,0,none⟩)] (fun m=>absM es x m.name) e.cls.mths t w (Zac func157 (by kernel_rfl) rfl) r (fun k m v w' F h G=>
  ZoI j y b x C m v c w' (l.trans (h.mono l.size)) G ((Yae (S:=fun _=>False) h).cell I id) (p m (Yaf F))) (by have:=b f;rw[a]at this;exact this))
 have E:Zb1 es x f=e.cls.mths.any fun m=>absM es x m.name:=by unfold Zb1;rw[a]
 rw[E];obtain⟨P,O,rfl⟩:=r.shape;generalize (e.cls.mths.any fun m=>absM es x m.name)=Q at d⊢;generalize e.cls.mths.length=k at d z;clear j y b n s r a E p I C u;go_enter func156,ntmps156
 go_wp2_with fail;refine d.o.mono ?_;rintro e L⟨rfl,g⟩;have D:=Hd g;clear g d z;go_wp2;go_ret;exact⟨rfl,D.o⟩
theorem ZcN {es:List Ent}(a:Shape es){o:Option Nat}(h:∀i,o=some i->i<es.length){d g:Nat}(b:d∈Zan es o)(j:g∈Zas es d):g∈ZaC es o:=by
 have c:=a.line o h;unfold ZaC Zc4;rcases Yai.1 j with e|k
 ·rw[e];exact Yba _ b
 ·refine Ya3 _ ((Zhx (a.mem c) g).2 ⟨d,b,?_⟩);obtain⟨e,f⟩:=ZbF c d b;exact(Zp0 (by rw[Zbm f];exact a.deep d e f) g).1 k
theorem Zdr {es:List Ent}{o:Option Nat}{b:Nat}(c:b∈ZaC es o){m:Mth}(a:m∈Zal es b):(Zbt es o m.name).isSome=true:=by
 unfold Zbt;rw[List.isSome_findSome?];refine YaU.2 ⟨b,c,?_⟩;rw[Option.isSome_map];unfold ownM;rw[List.find?_isSome];exact⟨m,a,by simp⟩
theorem ZoJ {A:Nat->Prop}{B:Nat->Nat}{a3 aY:Nat}{es:List Ent}{ar:World}(F:Tab A ar a3 aY B es)(n:Shape es)(aJ:Zdi es)(aa:∀i,(Zal es i).length<=9223372036854775807)(x:Nat)(Z:x<es.length)(w:World)(s:Below ar.heap.size ar w) :
  Calls prog 92 #[entV B x] w (Said (Zb9 es x) w):=by
 have a2:=Ymf;obtain⟨e,z⟩:∃e,es[x]?=some e:=⟨_,Yaa Z⟩
 have O:∀(i:Nat) (e:Ent) (au:Nat),es[i]?=some e->e.up=some au->au<es.length:=fun i e au aS a0=>aJ i au (ZbQ aS a0);have a:Below w.heap.size w (w.alloc (.cells #[entV B x] 77)):=Zaa (Yab _ _) _;have t:∀i,some x=some i->i<es.length:=fun i aO=>by obtain rfl:=Yac aO;exact Z
 have p:=ZgY n O z;have ae:=Zcw z;have K:ZdA es (Zan es e.up) e.up:=n.line e.up (fun au aU=>O x e au z aU);have r:∀d∈Zan es (some x),∀av∈Zas es d,∀m∈Zal es av,(Zbt es (some x) m.name).isSome=true:=fun d c av U m aL=>Zdr (ZcN n t c U) aL;have am:Hid (∀d W,d∈Zan es (some x)->Below (w.alloc (.cells #[entV B x] 77)).heap.size (w.alloc (.cells #[entV B x] 77)) W->Calls prog 151 #[entV B d,.func (.func 156) #[] #[.pointer (some ⟨w.heap.size,0,none⟩)]] W (Said ((Zas es d).any (Zb1 es x)) W)):=Hd (fun d W c u=>by
  obtain⟨a9,ax⟩:=ZbF (n.line (some x) t) d c;refine Zlr F n _ _ (Zac func156 (by kernel_rfl) rfl) d (Yag.1 ax).1 (Zb1 es x) W (s.trans ((a.trans (u.mono a.size)).mono s.size)) (fun av w' U af=>?_);have aF:=a.trans ((u.trans (af.mono u.size)).mono a.size);exact ZoH F n aa x Z av (ZdQ n t av (ZcN n t c U)) w.heap.size w' (s.trans (aF.mono s.size)) (((Box.new w #[entV B x] 77).below (u.trans (af.mono u.size))).cell 0 rfl) (r d c av U))
 have b:=Hd a;have Q:=Hd s;have aB:=Hd F;have V:Hid (∀W,Below (w.alloc (.cells #[entV B x] 77)).heap.size (w.alloc (.cells #[entV B x] 77)) W->W.cell? ⟨w.heap.size,0,none⟩=some (entV B x)/\W.cell? ⟨B x,5,none⟩=some (.bool e.cls.abs)/\W.cell? ⟨B x,9,none⟩=some (ptrV B e.up)):=Hd (fun W u=>by
  obtain⟨_,_,_,_,aw,_,_,_,_⟩:=(F.below (s.trans ((a.trans (u.mono a.size)).mono s.size))).ent x e z;exact⟨((Box.new w #[entV B x] 77).below u).cell 0 rfl,aw.cell 5 rfl,aw.cell 9 rfl⟩)
 obtain⟨R,D⟩:∃R,R=Zb9 es x:=⟨_,rfl⟩
 rw[←D];unfold Zb9 at D;rw[ae,Zhg z]at D;have J:∀k i,(Zan es e.up)[k]?=some i->i∈Zan es (some x):=fun k i aD=>by rw[p];exact Yau _ (Yaf aD)
 have ah:x∈Zan es (some x):=by rw[p];exact Yam
 have M:=Hd J;generalize Zan es e.up=L at D K M;have Y:=Hd D;have aA:=Hd K;have ad:=Hd ah;obtain⟨aR,az,aG⟩:=V.o _ (Yab _ _);generalize h:e.cls.abs=aN at V Y az;generalize aq:e.up=o at V aA aG;clear D K ah F n aJ aa Z s O a t p ae r J h aq z;cases aN with
 |true=>
  go_enter func92,ntmps92;go_wp2;go_ret;refine⟨?_,b.o⟩;have:=Y.o;simp only[Bool.not_true,YaQ]at this;rw[this];rfl
 |false=>
  go_enter func92,ntmps92
  go_wp2_with fail;refine(am.o x _ ad.o (Yab _ _)).mono ?_;rintro a8 a4⟨rfl,a⟩;have ab:Hid (R=((Zas es x).any (Zb1 es x) || (L.takeWhile (Zcz es)).any fun d=>(Zas es d).any (Zb1 es x))):=Hd (by have:=Y.o;simpa using this);obtain⟨aV,aP,aC⟩:=V.o _ a;have aI:=Hd a;generalize (Zas es x).any (Zb1 es x)=aM at ab⊢;clear aR az aG a Y ad;obtain⟨bb,ap⟩:=Zc0 B o;rw[ap]at aC;have aZ:=Hd ap;clear ap;go_wp2_with fail;clear aV aP aC;go_loopg [4,5] (L.length+1) (fun gk aQ a1 wr=>∃(k:Nat) (o:Option Nat) (T:Bool),aQ=.bool T/\a1=ptrV B o/\ZdA es (L.drop k) o/\R=(T || ((L.drop k).takeWhile (Zcz es)).any fun d=>(Zas es d).any (Zb1 es x))/\k<=L.length/\L.length-k<gk/\Below (w.alloc (.cells #[entV B x] 77)).heap.size (w.alloc (.cells #[entV B x] 77)) wr)
  case atStart=>exact⟨0,o,aM,rfl,aZ.o.symm,aA.o,ab.o,Yao _,by omega,aI.o⟩
  case round=>
   obtain⟨k,o,T,rfl,G,X,aK,aD,a6,ag⟩:=hrel;have f:=Hd ag;have v:=Hd aK;clear ag aK;cases T with
   |true=>
    go_wp2;go_ret;exact⟨by rw[v.o];rfl,b.o.trans (f.o.mono b.o.size)⟩
   |false=>
    cases c:L.drop k with
    |nil=>
     rw[c]at X;obtain rfl:o=none:=X;have I:u5=.pointer none:=G;subst I;have q:R=false:=by rw[v.o,c];rfl
     have E:=Hd q;clear G c q;go_wp2;go_ret;exact⟨by rw[E.o];rfl,b.o.trans (f.o.mono b.o.size)⟩
    |cons i a7=>
     rw[c]at X;obtain⟨aX,C,y,H⟩:=X;obtain⟨N,P,aE⟩:=Zir c;subst aX;have I:u5=.pointer (some ⟨B i,0,none⟩):=G;subst I;obtain⟨_,_,_,_,j,_,_,_,_⟩:=(aB.o.below (Q.o.trans ((b.o.trans (f.o.mono b.o.size)).mono Q.o.size))).ent i C y;have ao:wr.cell? ⟨B i,5,none⟩=some (.bool C.cls.abs):=j.cell 5 rfl;have g:=Zhg y;cases h:C.cls.abs with
     |false=>
      rw[h]at ao g;have q:R=false:=by rw[v.o,c,List.takeWhile_cons,g];rfl
      have E:=Hd q;clear G H c q j g h N P;go_wp2;go_ret;exact⟨by rw[E.o];rfl,b.o.trans (f.o.mono b.o.size)⟩
     |true=>
      rw[h]at ao g;have ac:R=((Zas es i).any (Zb1 es x) || (a7.takeWhile (Zcz es)).any fun d=>(Zas es d).any (Zb1 es x)):=by rw[v.o,c,List.takeWhile_cons,g];simp
      have al:=Hd ac;have ay:=Hd H;have ai:=Hd P;have aH:=Hd y;have l:=Hd (am.o i wr (M.o k i N) f.o);generalize (Zas es i).any (Zb1 es x)=aT at al l;clear G H c ac j g h N P y;go_wp2_with fail;refine l.o.mono ?_;rintro a5 aW⟨rfl,aj⟩;have ak:=Hd (f.o.trans (aj.mono f.o.size));clear aj ao l;obtain⟨_,_,_,_,j,_,_,_,_⟩:=(aB.o.below (Q.o.trans ((b.o.trans (ak.o.mono b.o.size)).mono Q.o.size))).ent i C aH.o;have ba:aW.cell? ⟨B i,9,none⟩=some (ptrV B C.up):=j.cell 9 rfl;clear j;go_wp2;go_roundg (L.length-k)
      case measure=>omega
      case rel=>exact⟨k+1,C.up,aT,rfl,rfl,by rw[ai.o];exact ay.o,by rw[ai.o];exact al.o,aE,by omega,ak.o⟩
def Znh (A:Nat->Prop)(d:Nat)(a:Array Value)(l:List Mth)(b c:Nat->World->Prop):Prop:=
 ∀(k:Nat) (x:Mth) (v:Value) (w:World),l[k]?=some x->b k w->MthR A w x v->Calls prog d (#[v]++a) w (YesNo (c k) (b (k+1)))
theorem ZlW {A:Nat->Prop}(I:Nat)(d:Array Value)(l:List Mth)(E:Option Addr)(B:Nat)(D af:Nat->World->Prop)(w:World)(g:∀args w,(callFunc I args).run prog w=.ok (.enter I args) w)
  (h:∀k w',D k w'->Src 7 MthR A w' (.slice E l.length B) l)(y:D 0 w)(H:Znh A I d l D af)(u:l.length<=9223372036854775807) :
  Calls prog 182 #[.slice E l.length B,.func (.func I) #[] d] w (ZrI l.length D af):=by
 have Q:=Hd H;have L:=Hd g;have C:=Hd h;have K:=Hd y;obtain⟨n,f⟩:∃n,n=l.length:=⟨_,rfl⟩
 rw[←f]at u⊢;simp only[←f]at C;have J:=Hd f;clear H g h y f;go_enter func182,ntmps182;go_wp2
 go_loopw [8] (fun t wr=>∃k:Nat,k<=n/\t=.int .i64 k/\D k wr) (fun t _=>n-(intOf t).toNat)
 case atStart=>exact⟨0,Yao _,rfl,K.o⟩
 case round=>
  obtain⟨k,ai,rfl,G⟩:=hrel;have m:=Hd G;clear G;by_cases F:k<n
  ·have i:k<l.length:=by have:=J.o;omega
   obtain⟨x,s⟩:∃x,l[k]?=some x:=⟨_,Yaa i⟩
   obtain⟨b,o,v,rfl,p,_,a⟩:=Src.elem (C.o k wr m.o) k x s;have U:=Hd p;obtain⟨_,_,_,rfl,⟨T,O,rfl⟩,⟨Y,P,rfl⟩,⟨N,R,rfl⟩⟩:=Zaj p;have W:wr.cell? ⟨b,o+k*7,none⟩=some (.string (S x.name)):=a 0 _ rfl;have ac:wr.cell? ⟨b,o+k*7+1,none⟩=some (.slice T x.params.length O):=a 1 _ rfl;have V:wr.cell? ⟨b,o+k*7+2,none⟩=some (.string (S x.res)):=a 2 _ rfl;have aa:wr.cell? ⟨b,o+k*7+3,none⟩=some (.bool x.abs):=a 3 _ rfl;have Z:wr.cell? ⟨b,o+k*7+4,none⟩=some (.int .i64 x.loc):=a 4 _ rfl;have ad:wr.cell? ⟨b,o+k*7+5,none⟩=some (.slice Y x.code.length P):=a 5 _ rfl;have X:wr.cell? ⟨b,o+k*7+6,none⟩=some (.slice N x.cats.length R):=a 6 _ rfl;clear a p;have M:=Hd s;clear s i;have ae:(0:Int)<=k:=by omega
   have ag:(k:Int)<(n:Int):=by omega
   have g:=L.o;go_wp2_with fail;refine(Q.o k x _ wr M.o m.o U.o).mono ?_;rintro e ah⟨ab,rfl,z,j⟩;have q:=Hd z;have c:=Hd j;clear g W ac V aa Z ad X z j;cases ab with
   |true=>
    have r:=Hd (q.o rfl);clear q c;go_wp2;go_ret;exact⟨k,rfl,Or.inl ⟨by omega,k,F,rfl,r.o⟩⟩
   |false=>
    have r:=Hd (c.o rfl);clear q c;go_wp2;go_roundw
    case rel=>exact⟨k+1,by omega,by go_num,r.o⟩
    case measure=>simp[intOf];omega
  ·obtain rfl:n=k:=by omega
   go_wp2;go_ret;exact⟨-1,rfl,Or.inr ⟨by decide,m.o⟩⟩
theorem ZnE {A:Nat->Prop}(m:Nat)(a:Array Value)(l:List Mth)(sv:Value)(i t:Nat->World->Prop)(w:World)(q:∀args w,(callFunc m args).run prog w=.ok (.enter m args) w)
  (b:∀k w',i k w'->Src 7 MthR A w' sv l)(d:i 0 w)(s:Znh A m a l i t)(c:l.length<=9223372036854775807) :
  Calls prog 117 #[sv,.func (.func m) #[] a] w (YesNo (fun w'=>∃k,k<l.length/\t k w') (i l.length)):=by
 obtain⟨y,v,rfl⟩:=(b 0 w d).shape;have r:=Hd (ZlW m a l y v i t w q b d s c);generalize l.length=n at r⊢;clear q b d s c;go_enter func117,ntmps117
 go_wp2_with fail;refine r.o.mono ?_;rintro e p⟨z,rfl,j⟩;have f:=Hd j;rcases j with⟨u,_⟩|⟨u,_⟩
 ·have h:Hid (∃k,k<n/\t k p):=Hd (by
   rcases f.o with⟨_,k,x,_,g⟩|⟨B,_⟩
   ·exact⟨k,x,g⟩
   ·omega)
  clear f;go_wp2;go_ret;exact⟨true,rfl,fun _=>h.o,(fun g=>by cases g)⟩
 ·have h:Hid (i n p):=Hd (by
   rcases f.o with⟨B,_⟩|⟨_,g⟩
   ·omega
   ·exact g)
  have d:decide (0<=z)=false:=by rw[decide_eq_false_iff_not];omega
  clear f;go_wp2;go_ret;exact⟨false,rfl,(fun g=>by cases g),fun _=>h.o⟩
def orM (a:Option (Nat×Mth))(m:Mth):Mth:=match a with|some a=>a.2|none=>m
def inhE (es:List Ent)(x:Nat)(m:Mth):Mth:=orM (Zbt es (upAt es x) m.name) m
theorem Zsi {A:Nat->Prop}{B:Nat->Nat}{a4 aV:Nat}{es:List Ent}{F:World}(ac:Tab A F a4 aV B es)(ap:Shape es)(aw:Zdi es)(X:∀i,(Zal es i).length<=9223372036854775807)(x:Nat)(ax:x<es.length)(m:Mth)(v:Value)(w:World)(M:Below F.heap.size F w)
  (ad:MthR (fun k=>k<F.heap.size) w m v) :
  Calls prog 154 #[entV B x,v] w (fun e w'=>∃ak,e=.returned ak/\MthR (fun k=>k<F.heap.size) w' (inhE es x m) ak/\Below w.heap.size w w'):=by
 obtain⟨e,U⟩:∃e,es[x]?=some e:=⟨_,Yaa ax⟩
 have aa:=Zcw U;have aI:=Hd ad;obtain⟨_,_,_,rfl,⟨j,n,rfl⟩,⟨q,p,rfl⟩,⟨h,r,rfl⟩⟩:=Zaj ad;have H:Below w.heap.size w ((w.alloc (.cells #[.string (S m.name),.slice j m.params.length n,.string (S m.res),.bool m.abs,.int .i64 m.loc,.slice q m.code.length p,.slice h m.cats.length r] 26)).alloc (.cells #[.string ⟨#[]⟩,.slice none 0 0,.string ⟨#[]⟩,.bool false,.int .i64 0,.slice none 0 0,.slice none 0 0] 26)):=Zaa (Zaa (Yab _ _) _) _;have Y:(w.alloc (.cells #[.string (S m.name),.slice j m.params.length n,.string (S m.res),.bool m.abs,.int .i64 m.loc,.slice q m.code.length p,.slice h m.cats.length r] 26)).heap.size=w.heap.size+1:=by simp
 have I:=Hd H;have af:=Hd ((Box.new w #[.string (S m.name),.slice j m.params.length n,.string (S m.res),.bool m.abs,.int .i64 m.loc,.slice q m.code.length p,.slice h m.cats.length r] 26).below (Zaa (Yab _ _) (.cells #[.string ⟨#[]⟩,.slice none 0 0,.string ⟨#[]⟩,.bool false,.int .i64 0,.slice none 0 0,.slice none 0 0] 26)));have ah:=Box.new (w.alloc (.cells #[.string (S m.name),.slice j m.params.length n,.string (S m.res),.bool m.abs,.int .i64 m.loc,.slice q m.code.length p,.slice h m.cats.length r] 26)) #[.string ⟨#[]⟩,.slice none 0 0,.string ⟨#[]⟩,.bool false,.int .i64 0,.slice none 0 0,.slice none 0 0] 26;rw[Y]at ah;have ar:=Hd ah;have L:=Hd M;obtain⟨d,ai⟩:∃d,d=Zbt es e.up m.name:=⟨_,rfl⟩
 have aj:Hid (∀W,Below w.heap.size w W->Calls prog 158 #[ptrV B e.up,.string (S m.name)] W (Zp4 A B F d W)):=Hd (fun W V=>by
  rw[ai];exact ZhG ac ap X e.up (fun a6 aS=>aw x a6 (ZbQ U aS)) m.name W (M.trans (V.mono M.size)))
 have Z:inhE es x m=orM d m:=by unfold inhE;rw[aa,ai]
 rw[Z];obtain⟨a3,ag⟩:=Zc0 B e.up;have T:Hid (∀W,Below ((w.alloc (.cells #[.string (S m.name),.slice j m.params.length n,.string (S m.res),.bool m.abs,.int .i64 m.loc,.slice q m.code.length p,.slice h m.cats.length r] 26)).alloc (.cells #[.string ⟨#[]⟩,.slice none 0 0,.string ⟨#[]⟩,.bool false,.int .i64 0,.slice none 0 0,.slice none 0 0] 26)).heap.size ((w.alloc (.cells #[.string (S m.name),.slice j m.params.length n,.string (S m.res),.bool m.abs,.int .i64 m.loc,.slice q m.code.length p,.slice h m.cats.length r] 26)).alloc (.cells #[.string ⟨#[]⟩,.slice none 0 0,.string ⟨#[]⟩,.bool false,.int .i64 0,.slice none 0 0,.slice none 0 0] 26)) W->W.cell? ⟨B x,9,none⟩=some (.pointer a3)/\W.cell? ⟨w.heap.size,0,none⟩=some (.string (S m.name))):=Hd (fun W V=>by
  obtain⟨a8,ba,a7,sv,aq,_⟩:=(ac.below (M.trans ((H.trans (V.mono H.size)).mono M.size))).ent x e U;have aW:=aq.cell 9 rfl;exact⟨by rw[←ag];exact aW,(af.o.below V).cell 0 rfl⟩)
 rw[ag]at aj;clear ac ap aw X M ad H ai Z aa U ax Y ah ag;go_enter func154,ntmps154
 go_upto_region 1 with fail;generalize (w.alloc (.cells #[.string (S m.name),.slice j m.params.length n,.string (S m.res),.bool m.abs,.int .i64 m.loc,.slice q m.code.length p,.slice h m.cats.length r] 26)).alloc (.cells #[.string ⟨#[]⟩,.slice none 0 0,.string ⟨#[]⟩,.bool false,.int .i64 0,.slice none 0 0,.slice none 0 0] 26)=N at I af ar T⊢;have O:Below N.heap.size N N:=Yab _ _;obtain⟨aM,aD⟩:=T.o N O;first
 |(go_region_held (fun W=>W.cell? ⟨B x,9,none⟩=some (.pointer a3)/\W.cell? ⟨w.heap.size,0,none⟩=some (.string (S m.name))) ((refine T.o _ ?_;(with_reducible repeat (first|exact Yab _ _|(apply Zae;rotate_left;assumption)|refine Zab ?_))))
   (first|((with_reducible refine(aj.o _ ?_).mono ?_);(focus (with_reducible refine Zae I.o ?_;(with_reducible repeat (first|exact Yab _ _|assumption|refine Zab ?_));done));rintro a9 g⟨a1,am,rfl,al,K⟩)))
 |fail
 have J:Below N.heap.size N g:=(by first|exact Zae (Zab O) K|exact Zae (Zab (Zab O)) K|exact Zae (Zab (Zab (Zab O))) K);have G:=Hd (I.o.trans (J.mono I.o.size));have y:=af.o.below J;have c:=ar.o.below J;have av:=Hd (MthR.st.keep aI.o (Yae (S:=fun _=>False) G.o) (fun _ _=>id));clear K J aM aD aj T O;have f:Hid (w.heap.size<=w.heap.size+1):=Hd (Nat.le_succ _);cases d with
 |none=>
  obtain rfl:am=none:=al;have aJ:=y.cell 0 rfl;have aZ:=y.cell 1 rfl;have aQ:=y.cell 2 rfl;have aR:=y.cell 3 rfl;have aT:=y.cell 4 rfl;have aF:=y.cell 5 rfl;have aB:=y.cell 6 rfl;clear y;have aA:=c.cell 0 rfl;have az:=c.free 0;have ay:=c.cell 1 rfl;have aN:=c.free 1;have aY:=c.cell 2 rfl;have a0:=c.free 2;have aK:=c.cell 3 rfl;have aU:=c.free 3;have aC:=c.cell 4 rfl;have aL:=c.free 4;have aP:=c.cell 5 rfl;have aX:=c.free 5;have aG:=c.cell 6 rfl;have aE:=c.free 6;have ae:=Hd c;clear c;go_wp2;have c:=ae.o;have l:=ZaS (P:=prog) (w:=(((((((g.setCell ⟨w.heap.size+1,0,none⟩ (.string (S m.name))).setCell ⟨w.heap.size+1,1,none⟩ (.slice j m.params.length n)).setCell ⟨w.heap.size+1,2,none⟩ (.string (S m.res))).setCell ⟨w.heap.size+1,3,none⟩ (.bool m.abs)).setCell ⟨w.heap.size+1,4,none⟩ (.int .i64 m.loc)).setCell ⟨w.heap.size+1,5,none⟩ (.slice q m.code.length p)).setCell ⟨w.heap.size+1,6,none⟩ (.slice h m.cats.length r))) (cs:=#[.string (S m.name),.slice j m.params.length n,.string (S m.res),.bool m.abs,.int .i64 m.loc,.slice q m.code.length p,.slice h m.cats.length r]) (((((((c.set 0 (.string (S m.name))).set 1 (.slice j m.params.length n)).set 2 (.string (S m.res))).set 3 (.bool m.abs)).set 4 (.int .i64 m.loc)).set 5 (.slice q m.code.length p)).set 6 (.slice h m.cats.length r)) underlying26 rfl Zbg;have ab:Below w.heap.size w (((((((g.setCell ⟨w.heap.size+1,0,none⟩ (.string (S m.name))).setCell ⟨w.heap.size+1,1,none⟩ (.slice j m.params.length n)).setCell ⟨w.heap.size+1,2,none⟩ (.string (S m.res))).setCell ⟨w.heap.size+1,3,none⟩ (.bool m.abs)).setCell ⟨w.heap.size+1,4,none⟩ (.int .i64 m.loc)).setCell ⟨w.heap.size+1,5,none⟩ (.slice q m.code.length p)).setCell ⟨w.heap.size+1,6,none⟩ (.slice h m.cats.length r)):=(((((((G.o.setCell f.o (.string (S m.name))).setCell f.o (.slice j m.params.length n)).setCell f.o (.string (S m.res))).setCell f.o (.bool m.abs)).setCell f.o (.int .i64 m.loc)).setCell f.o (.slice q m.code.length p)).setCell f.o (.slice h m.cats.length r));have t:Only (fun i=>i=w.heap.size+1) g (((((((g.setCell ⟨w.heap.size+1,0,none⟩ (.string (S m.name))).setCell ⟨w.heap.size+1,1,none⟩ (.slice j m.params.length n)).setCell ⟨w.heap.size+1,2,none⟩ (.string (S m.res))).setCell ⟨w.heap.size+1,3,none⟩ (.bool m.abs)).setCell ⟨w.heap.size+1,4,none⟩ (.int .i64 m.loc)).setCell ⟨w.heap.size+1,5,none⟩ (.slice q m.code.length p)).setCell ⟨w.heap.size+1,6,none⟩ (.slice h m.cats.length r)):=((((((((Yak (fun i=>i=w.heap.size+1) g).setCell rfl (.string (S m.name))).setCell rfl (.slice j m.params.length n)).setCell rfl (.string (S m.res))).setCell rfl (.bool m.abs)).setCell rfl (.int .i64 m.loc)).setCell rfl (.slice q m.code.length p)).setCell rfl (.slice h m.cats.length r));refine bodyPost_ret (v:=.agg #[.string (S m.name),.slice j m.params.length n,.string (S m.res),.bool m.abs,.int .i64 m.loc,.slice q m.code.length p,.slice h m.cats.length r]) ?_ rfl ⟨_,rfl,MthR.st.keep av.o t (fun i (aH:i<F.heap.size) (a5:i=w.heap.size+1)=>by have:=L.o.size;omega),ab⟩;simp only[results,results154];simp[asAddr,l]
 |some d=>
  obtain⟨i,d⟩:=d;obtain⟨_,b,o,v,au,Q,_,a2,s⟩:=al;obtain rfl:=Value.pointer.inj au;have R:=MthR.st.mono (A':=fun k=>k<F.heap.size) Q (fun k aO _=>aO);have ao:=Hd (MthR.st.keep R (Yae (S:=fun _=>False) (L.o.trans (G.o.mono L.o.size))) (fun _ _=>id));obtain⟨_,_,_,rfl,⟨D,u,rfl⟩,⟨z,C,rfl⟩,⟨lo,E,rfl⟩⟩:=Zaj Q;have t:=Yae (S:=fun _=>False) (L.o.trans (G.o.mono L.o.size));have aJ:g.cell? ⟨b,o,none⟩=some (.string (S d.name)):=t.cell (a:=⟨b,o,none⟩) (s 0 _ rfl) id;have aZ:g.cell? ⟨b,o+1,none⟩=some (.slice D d.params.length u):=t.cell (s 1 _ rfl) id;have aQ:g.cell? ⟨b,o+2,none⟩=some (.string (S d.res)):=t.cell (s 2 _ rfl) id;have aR:g.cell? ⟨b,o+3,none⟩=some (.bool d.abs):=t.cell (s 3 _ rfl) id;have aT:g.cell? ⟨b,o+4,none⟩=some (.int .i64 d.loc):=t.cell (s 4 _ rfl) id;have aF:g.cell? ⟨b,o+5,none⟩=some (.slice z d.code.length C):=t.cell (s 5 _ rfl) id;have aB:g.cell? ⟨b,o+6,none⟩=some (.slice lo d.cats.length E):=t.cell (s 6 _ rfl) id;clear y t s Q R;have aA:=c.cell 0 rfl;have az:=c.free 0;have ay:=c.cell 1 rfl;have aN:=c.free 1;have aY:=c.cell 2 rfl;have a0:=c.free 2;have aK:=c.cell 3 rfl;have aU:=c.free 3;have aC:=c.cell 4 rfl;have aL:=c.free 4;have aP:=c.cell 5 rfl;have aX:=c.free 5;have aG:=c.cell 6 rfl;have aE:=c.free 6;have ae:=Hd c;clear c;go_wp2;have c:=ae.o;have l:=ZaS (P:=prog) (w:=(((((((g.setCell ⟨w.heap.size+1,0,none⟩ (.string (S d.name))).setCell ⟨w.heap.size+1,1,none⟩ (.slice D d.params.length u)).setCell ⟨w.heap.size+1,2,none⟩ (.string (S d.res))).setCell ⟨w.heap.size+1,3,none⟩ (.bool d.abs)).setCell ⟨w.heap.size+1,4,none⟩ (.int .i64 d.loc)).setCell ⟨w.heap.size+1,5,none⟩ (.slice z d.code.length C)).setCell ⟨w.heap.size+1,6,none⟩ (.slice lo d.cats.length E))) (cs:=#[.string (S d.name),.slice D d.params.length u,.string (S d.res),.bool d.abs,.int .i64 d.loc,.slice z d.code.length C,.slice lo d.cats.length E]) (((((((c.set 0 (.string (S d.name))).set 1 (.slice D d.params.length u)).set 2 (.string (S d.res))).set 3 (.bool d.abs)).set 4 (.int .i64 d.loc)).set 5 (.slice z d.code.length C)).set 6 (.slice lo d.cats.length E)) underlying26 rfl Zbg;have ab:Below w.heap.size w (((((((g.setCell ⟨w.heap.size+1,0,none⟩ (.string (S d.name))).setCell ⟨w.heap.size+1,1,none⟩ (.slice D d.params.length u)).setCell ⟨w.heap.size+1,2,none⟩ (.string (S d.res))).setCell ⟨w.heap.size+1,3,none⟩ (.bool d.abs)).setCell ⟨w.heap.size+1,4,none⟩ (.int .i64 d.loc)).setCell ⟨w.heap.size+1,5,none⟩ (.slice z d.code.length C)).setCell ⟨w.heap.size+1,6,none⟩ (.slice lo d.cats.length E)):=(((((((G.o.setCell f.o (.string (S d.name))).setCell f.o (.slice D d.params.length u)).setCell f.o (.string (S d.res))).setCell f.o (.bool d.abs)).setCell f.o (.int .i64 d.loc)).setCell f.o (.slice z d.code.length C)).setCell f.o (.slice lo d.cats.length E));have t:Only (fun i=>i=w.heap.size+1) g (((((((g.setCell ⟨w.heap.size+1,0,none⟩ (.string (S d.name))).setCell ⟨w.heap.size+1,1,none⟩ (.slice D d.params.length u)).setCell ⟨w.heap.size+1,2,none⟩ (.string (S d.res))).setCell ⟨w.heap.size+1,3,none⟩ (.bool d.abs)).setCell ⟨w.heap.size+1,4,none⟩ (.int .i64 d.loc)).setCell ⟨w.heap.size+1,5,none⟩ (.slice z d.code.length C)).setCell ⟨w.heap.size+1,6,none⟩ (.slice lo d.cats.length E)):=((((((((Yak (fun i=>i=w.heap.size+1) g).setCell rfl (.string (S d.name))).setCell rfl (.slice D d.params.length u)).setCell rfl (.string (S d.res))).setCell rfl (.bool d.abs)).setCell rfl (.int .i64 d.loc)).setCell rfl (.slice z d.code.length C)).setCell rfl (.slice lo d.cats.length E));refine bodyPost_ret (v:=.agg #[.string (S d.name),.slice D d.params.length u,.string (S d.res),.bool d.abs,.int .i64 d.loc,.slice z d.code.length C,.slice lo d.cats.length E]) ?_ rfl ⟨_,rfl,MthR.st.keep ao.o t (fun i (aH:i<F.heap.size) (a5:i=w.heap.size+1)=>by have:=L.o.size;omega),ab⟩;simp only[results,results154];simp[asAddr,l]
