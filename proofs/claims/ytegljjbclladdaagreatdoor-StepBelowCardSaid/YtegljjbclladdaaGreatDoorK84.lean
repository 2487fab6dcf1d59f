/- laws -/
import Derived.Test.YtegljjbclladdaaGreatDoorK83
set_option maxRecDepth 100000
set_option maxHeartbeats 16000000
namespace Go.Proofs.YtegljjbclladdaaGreatDoor
open Go.RowKit Proofs.Tryz
def Zbq:List UInt8:=[98,111,111,108]
def Zfc:List UInt8:=[116,101,120,116]
abbrev subF (b a:Nat):Value:=.func (.func 169) #[] #[.pointer (some ⟨b,0,none⟩),.pointer (some ⟨a,0,none⟩)]
theorem ZpP {A:Nat->Prop}{B:Nat->Nat}{u C:Nat}{es:List Ent}{c:World}(v:Tab A c u C B es)(G:Shape es){s lo:Nat}{p:Nat->Option Value}(w:p 0=some (.pointer (some ⟨u,0,none⟩))){W:World}{stk loc:List (List UInt8)}(q:StW s lo p c W stk loc 0)(R:stk.length<=1000)(E:∀x∈stk,x.length<=9223372036854775807)
  {w2:World}(h:Below W.heap.size W w2)(l:List (Nat×Nat×List UInt8))(cs:Array Value)(m:Nat)(g:m=l.length)(N:1<=m)(O:m<=100)(I:∀(i:Nat) d,l[i]?=some d->cs[i]?=some (subF d.1 d.2.1))
  (t:∀n k o,(n,k,o)∈l->W.heap.size<=n/\W.heap.size<=k/\Box w2 n #[.pointer (some ⟨s,0,none⟩)] 55/\Box w2 k #[.string (S o)] 9)(z:∀d∈l,d.2.2.length<=9223372036854775807) :
  Calls prog 103 #[.pointer (some ⟨s,0,none⟩),.slice (some ⟨w2.heap.size,0,none⟩) m m] (w2.alloc (.cells cs 107)) (fun e w'=>(∃j,e=.returned j)/\StW s lo p c w' (Zb4 m stk 0) loc (Zc2 m (Zfr es (l.map fun d=>d.2.2)) stk 0)/\Below lo W w'):=by
 have f:Below w2.heap.size w2 (w2.alloc (.cells cs 107)):=Zaa (Yab _ _) _;have b:=h.trans (f.mono h.size);have M:=q.lt;have D:=Box.new w2 cs 107;have a:Stands c u s l (w2.alloc (.cells cs 107)):=⟨q.bel.trans (b.mono q.bel.size),(Yae (S:=fun _=>False) b).cell (q.cell 0 (by decide) w) id,fun K F o g=>by
  obtain⟨Q,P,y,L⟩:=t K F o g;exact⟨by omega,by omega,y.below f,L.below f⟩⟩
 refine(Zbx v G q b (by omega) w2.heap.size m m l g (by omega) (by omega) (fun i d H=>D.cell i (I i d H)) h.size a z E).mono ?_;rintro e J⟨j,rfl,_,a,_,r,_,_⟩;exact⟨⟨j,rfl⟩,a J (Yak _ _),(b.mono q.lo1).trans r⟩
theorem ZpO {A:Nat->Prop}{B:Nat->Nat}{y r:Nat}{es:List Ent}{d:World}(k:Tab A d y r B es)(u:Shape es){g lo:Nat}{p:Nat->Option Value}(m:p 0=some (.pointer (some ⟨y,0,none⟩))){W:World}{stk loc:List (List UInt8)}(z:StW g lo p d W stk loc 0)(w:stk.length<=1000)(s:∀x∈stk,x.length<=9223372036854775807)
  (o:List UInt8)(n:o.length<=9223372036854775807)(a:World)(c b:Nat)(v:Box a c #[.pointer (some ⟨g,0,none⟩)] 55)(q:Box a b #[.string (S o)] 9)(j:W.heap.size<=c)(h:W.heap.size<=b)(l:Below W.heap.size W a) :
  Calls prog 103 #[.pointer (some ⟨g,0,none⟩),.slice (some ⟨a.heap.size,0,none⟩) 1 1] (a.alloc (.cells #[subF c b] 107)) (fun e w'=>(∃t,e=.returned t)/\StW g lo p d w' (Zb4 1 stk 0) loc (Zc2 1 (Zfr es [o]) stk 0)/\Below lo W w'):=
 ZpP k u m z w s l [(c,b,o)] _ 1 rfl (by decide) (by decide) (fun i E hq=>by
  match i,hq with
  |0,hq=>obtain rfl:=Yac hq;rfl
  |i+1,hq=>cases hq) (fun D C o f=>by
  simp only[Yai,Yat,or_false,Prod.mk.injEq]at f;obtain⟨rfl,rfl,rfl⟩:=f;exact⟨j,h,v,q⟩) (fun E hq=>by rw[Yax.1 hq];exact n)
theorem Zrs {A:Nat->Prop}{B:Nat->Nat}{F v:Nat}{es:List Ent}{j:World}(r:Tab A j F v B es)(z:Shape es){l lo:Nat}{p:Nat->Option Value}(s:p 0=some (.pointer (some ⟨F,0,none⟩))){W:World}{stk loc:List (List UInt8)}(H:StW l lo p j W stk loc 0)(E:stk.length<=1000)(w:∀x∈stk,x.length<=9223372036854775807)
  (o:List UInt8)(t:o.length<=9223372036854775807)(a w2:World)(c b d f:Nat)(D:Box a c #[.pointer (some ⟨l,0,none⟩)] 55)(u:Box a b #[.string (S o)] 9)(q:W.heap.size<=c)(m:W.heap.size<=b)(h:Below W.heap.size W a)
  (n:Box w2 d #[.pointer (some ⟨l,0,none⟩)] 55)(C:Box w2 f #[.string (S o)] 9)(J:a.heap.size<=d)(M:a.heap.size<=f)(g:Below a.heap.size a w2) :
  Calls prog 103 #[.pointer (some ⟨l,0,none⟩),.slice (some ⟨w2.heap.size,0,none⟩) 2 2] (w2.alloc (.cells #[subF c b,subF d f] 107)) (fun e w'=>(∃y,e=.returned y)/\StW l lo p j w' (Zb4 2 stk 0) loc (Zc2 2 (Zfr es [o,o]) stk 0)/\Below lo W w'):=
 ZpP r z s H E w (h.trans (g.mono h.size)) [(c,b,o),(d,f,o)] _ 2 rfl (by decide) (by decide) (fun i L hq=>by
  match i,hq with
  |0,hq=>obtain rfl:=Yac hq;rfl
  |1,hq=>obtain rfl:=Yac hq;rfl
  |i+2,hq=>cases hq) (fun K I o k=>by
  have G:=h.size;simp only[Yai,Yat,or_false,Prod.mk.injEq]at k;rcases k with⟨rfl,rfl,rfl⟩|⟨rfl,rfl,rfl⟩
  ·exact⟨q,m,D.below g,u.below g⟩
  ·exact⟨by omega,by omega,n,C⟩) (fun L hq=>by
  simp only[Yai,Yat,or_false]at hq;rcases hq with rfl|rfl<;>exact t)
theorem Zeb {f lo:Nat}{p:Nat->Option Value}{a W:World}{stk loc:List (List UInt8)}{er:Nat}(h:StW f lo p a W stk loc er)(o:List UInt8)(g:stk.length<=1000)(d:o.length<=281474976710656) :
  Calls prog 101 #[.pointer (some ⟨f,0,none⟩),.slice (some ⟨W.heap.size,0,none⟩) 1 1] (W.alloc (.cells #[.string (S o)] 9)) (fun en b=>en=.returned (.tuple #[])/\StW f lo p a b (stk++[o]) loc er/\Below lo W b):=
 ZaY h [o] _ rfl rfl (by simp) (by omega) (fun x c=>by rw[Yax.1 c];exact d) _
theorem Zed {m:Nat}{stk:List (List UInt8)}(a:stk.length<=1000):(Zb4 m stk 0).length<=1000:=Yaj (Zbh m stk 0) a
theorem ZhN {h lo:Nat}{p:Nat->Option Value}{b W:World}{stk loc:List (List UInt8)}(j:StW h lo p b W stk loc 0)(m:stk.length<=1000) :
  Calls prog 42 #[.pointer (some ⟨h,0,none⟩)] W (OpG h lo p b ⟨fun _=>0,0,fun _ _=>true,fun _ _=>[intL],none⟩ stk loc W):=by
 have f:=Hd (ZaY j [intL] #[.string ⟨#[105,110,116]⟩] rfl rfl (by simp) (by omega) (fun x c=>by simp only[Yai,Yat,or_false]at c;subst c;decide) 9);clear j;go_enter func42,ntmps42
 go_wp2_with fail;refine f.o.mono ?_;rintro e k⟨rfl,a,d⟩;have g:=Hd a;have i:=Hd d;clear a d f;go_wp2;go_end0
 exact⟨rfl,by have l:=g.o;unfold OpM.stk OpM.er OpM.loc;rw[Zcm,Zcl];exact l,i.o⟩
theorem Zfl {h lo:Nat}{p:Nat->Option Value}{b W:World}{stk loc:List (List UInt8)}(j:StW h lo p b W stk loc 0)(m:stk.length<=1000) :
  Calls prog 43 #[.pointer (some ⟨h,0,none⟩)] W (OpG h lo p b ⟨fun _=>0,0,fun _ _=>true,fun _ _=>[Zbq],none⟩ stk loc W):=by
 have f:=Hd (ZaY j [Zbq] #[.string ⟨#[98,111,111,108]⟩] rfl rfl (by simp) (by omega) (fun x c=>by simp only[Yai,Yat,or_false]at c;subst c;decide) 9);clear j;go_enter func43,ntmps43
 go_wp2_with fail;refine f.o.mono ?_;rintro e k⟨rfl,a,d⟩;have g:=Hd a;have i:=Hd d;clear a d f;go_wp2;go_end0
 exact⟨rfl,by have l:=g.o;unfold OpM.stk OpM.er OpM.loc;rw[Zcm,Zcl];exact l,i.o⟩
theorem Zkg {h lo:Nat}{p:Nat->Option Value}{b W:World}{stk loc:List (List UInt8)}(j:StW h lo p b W stk loc 0)(m:stk.length<=1000) :
  Calls prog 44 #[.pointer (some ⟨h,0,none⟩)] W (OpG h lo p b ⟨fun _=>0,0,fun _ _=>true,fun _ _=>[Zfc],none⟩ stk loc W):=by
 have f:=Hd (ZaY j [Zfc] #[.string ⟨#[116,101,120,116]⟩] rfl rfl (by simp) (by omega) (fun x c=>by simp only[Yai,Yat,or_false]at c;subst c;decide) 9);clear j;go_enter func44,ntmps44
 go_wp2_with fail;refine f.o.mono ?_;rintro e k⟨rfl,a,d⟩;have g:=Hd a;have i:=Hd d;clear a d f;go_wp2;go_end0
 exact⟨rfl,by have l:=g.o;unfold OpM.stk OpM.er OpM.loc;rw[Zcm,Zcl];exact l,i.o⟩
theorem Zkf {h lo:Nat}{p:Nat->Option Value}{b W:World}{stk loc:List (List UInt8)}(j:StW h lo p b W stk loc 0)(m:stk.length<=1000) :
  Calls prog 45 #[.pointer (some ⟨h,0,none⟩)] W (OpG h lo p b ⟨fun _=>0,0,fun _ _=>true,fun _ _=>[Zcv],none⟩ stk loc W):=by
 have f:=Hd (ZaY j [Zcv] #[.string ⟨#[110,117,108,108]⟩] rfl rfl (by simp) (by omega) (fun x c=>by simp only[Yai,Yat,or_false]at c;subst c;decide) 9);clear j;go_enter func45,ntmps45
 go_wp2_with fail;refine f.o.mono ?_;rintro e k⟨rfl,a,d⟩;have g:=Hd a;have i:=Hd d;clear a d f;go_wp2;go_end0
 exact⟨rfl,by have l:=g.o;unfold OpM.stk OpM.er OpM.loc;rw[Zcm,Zcl];exact l,i.o⟩
theorem Za4 {A:Nat->Prop}{B:Nat->Nat}{Q I:Nat}{es:List Ent}{c:World}(m:Tab A c Q I B es)(u:Shape es){f lo:Nat}{p:Nat->Option Value}(q:p 0=some (.pointer (some ⟨Q,0,none⟩))){W:World}{stk loc:List (List UInt8)}(R:StW f lo p c W stk loc 0)(d:stk.length<=1000)(t:∀x∈stk,x.length<=9223372036854775807) :
  Calls prog 51 #[.pointer (some ⟨f,0,none⟩)] W (OpG f lo p c (ZbE es [intL,intL] [intL]) stk loc W):=by
 have a:Hid (∀W,Calls prog 106 #[.pointer (some ⟨f,0,none⟩),.string ⟨#[105,110,116]⟩] W (SubG f intL W)):=Hd (ZaT f intL);unfold SubG at a;have w:=Hd (Zrs m u q R d t intL (by decide));have K:=Hd d;clear m u R d t q;go_enter func51,ntmps51
 go_wp2_with fail;with_reducible refine(a.o W).mono ?_
 rintro e r⟨N,M,rfl,E,s,j,g,n⟩;go_wp2_with fail;with_reducible refine(a.o r).mono ?_
 rintro e w2⟨O,P,rfl,i,z,y,F,l⟩;have b:=Hd (w.o r w2 N M O P E s j g n i z y F l);clear E s j g n i z y F l w a;go_wp2_with fail;with_reducible refine b.o.mono ?_
 rintro e C⟨⟨T,rfl⟩,D,b5⟩;have J:=Hd D;have G:=Hd b5;have h:Hid (Calls prog 101 #[.pointer (some ⟨f,0,none⟩),.slice (some ⟨C.heap.size,0,none⟩) 1 1] (C.alloc (.cells #[.string ⟨#[105,110,116]⟩] 9)) _):=Hd (Zeb J.o intL (Zed K.o) (by decide));clear D b5 b;go_wp2_with fail;refine h.o.mono ?_;rintro e U⟨rfl,k,v⟩;have L:=Hd k;have H:=Hd (G.o.trans v);clear k v h;go_wp2;go_end0
 exact⟨rfl,L.o,H.o⟩
theorem ZoY {A:Nat->Prop}{B:Nat->Nat}{J C:Nat}{es:List Ent}{c:World}(k:Tab A c J C B es)(r:Shape es){f lo:Nat}{p:Nat->Option Value}(m:p 0=some (.pointer (some ⟨J,0,none⟩))){W:World}{stk loc:List (List UInt8)}(K:StW f lo p c W stk loc 0)(d:stk.length<=1000)(q:∀x∈stk,x.length<=9223372036854775807) :
  Calls prog 52 #[.pointer (some ⟨f,0,none⟩)] W (OpG f lo p c (ZbE es [intL] [intL]) stk loc W):=by
 have b:Hid (∀W,Calls prog 106 #[.pointer (some ⟨f,0,none⟩),.string ⟨#[105,110,116]⟩] W (SubG f intL W)):=Hd (ZaT f intL);unfold SubG at b;have t:=Hd (ZpO k r m K d q intL (by decide));have E:=Hd d;clear k r K d q m;go_enter func52,ntmps52
 go_wp2_with fail;with_reducible refine(b.o W).mono ?_
 rintro e z⟨H,G,rfl,w,n,i,g,l⟩;have a:=Hd (t.o z H G w n i g l);clear w n i g l t b;go_wp2_with fail;with_reducible refine a.o.mono ?_
 rintro e u⟨⟨L,rfl⟩,v,b5⟩;have D:=Hd v;have y:=Hd b5;have h:Hid (Calls prog 101 #[.pointer (some ⟨f,0,none⟩),.slice (some ⟨u.heap.size,0,none⟩) 1 1] (u.alloc (.cells #[.string ⟨#[105,110,116]⟩] 9)) _):=Hd (Zeb D.o intL (Zed E.o) (by decide));clear v b5 a;go_wp2_with fail;refine h.o.mono ?_;rintro e M⟨rfl,j,s⟩;have F:=Hd j;have I:=Hd (y.o.trans s);clear j s h;go_wp2;go_end0
 exact⟨rfl,F.o,I.o⟩
theorem ZgL {A:Nat->Prop}{B:Nat->Nat}{Q I:Nat}{es:List Ent}{c:World}(m:Tab A c Q I B es)(u:Shape es){f lo:Nat}{p:Nat->Option Value}(q:p 0=some (.pointer (some ⟨Q,0,none⟩))){W:World}{stk loc:List (List UInt8)}(R:StW f lo p c W stk loc 0)(d:stk.length<=1000)(t:∀x∈stk,x.length<=9223372036854775807) :
  Calls prog 53 #[.pointer (some ⟨f,0,none⟩)] W (OpG f lo p c (ZbE es [intL,intL] [Zbq]) stk loc W):=by
 have a:Hid (∀W,Calls prog 106 #[.pointer (some ⟨f,0,none⟩),.string ⟨#[105,110,116]⟩] W (SubG f intL W)):=Hd (ZaT f intL);unfold SubG at a;have w:=Hd (Zrs m u q R d t intL (by decide));have K:=Hd d;clear m u R d t q;go_enter func53,ntmps53
 go_wp2_with fail;with_reducible refine(a.o W).mono ?_
 rintro e r⟨N,M,rfl,E,s,j,g,n⟩;go_wp2_with fail;with_reducible refine(a.o r).mono ?_
 rintro e w2⟨O,P,rfl,i,z,y,F,l⟩;have b:=Hd (w.o r w2 N M O P E s j g n i z y F l);clear E s j g n i z y F l w a;go_wp2_with fail;with_reducible refine b.o.mono ?_
 rintro e C⟨⟨T,rfl⟩,D,b5⟩;have J:=Hd D;have G:=Hd b5;have h:Hid (Calls prog 101 #[.pointer (some ⟨f,0,none⟩),.slice (some ⟨C.heap.size,0,none⟩) 1 1] (C.alloc (.cells #[.string ⟨#[98,111,111,108]⟩] 9)) _):=Hd (Zeb J.o Zbq (Zed K.o) (by decide));clear D b5 b;go_wp2_with fail;refine h.o.mono ?_;rintro e U⟨rfl,k,v⟩;have L:=Hd k;have H:=Hd (G.o.trans v);clear k v h;go_wp2;go_end0
 exact⟨rfl,L.o,H.o⟩
theorem Zox {A:Nat->Prop}{B:Nat->Nat}{J C:Nat}{es:List Ent}{c:World}(k:Tab A c J C B es)(r:Shape es){f lo:Nat}{p:Nat->Option Value}(m:p 0=some (.pointer (some ⟨J,0,none⟩))){W:World}{stk loc:List (List UInt8)}(K:StW f lo p c W stk loc 0)(d:stk.length<=1000)(q:∀x∈stk,x.length<=9223372036854775807) :
  Calls prog 54 #[.pointer (some ⟨f,0,none⟩)] W (OpG f lo p c (ZbE es [Zbq] [Zbq]) stk loc W):=by
 have b:Hid (∀W,Calls prog 106 #[.pointer (some ⟨f,0,none⟩),.string ⟨#[98,111,111,108]⟩] W (SubG f Zbq W)):=Hd (ZaT f Zbq);unfold SubG at b;have t:=Hd (ZpO k r m K d q Zbq (by decide));have E:=Hd d;clear k r K d q m;go_enter func54,ntmps54
 go_wp2_with fail;with_reducible refine(b.o W).mono ?_
 rintro e z⟨H,G,rfl,w,n,i,g,l⟩;have a:=Hd (t.o z H G w n i g l);clear w n i g l t b;go_wp2_with fail;with_reducible refine a.o.mono ?_
 rintro e u⟨⟨L,rfl⟩,v,b5⟩;have D:=Hd v;have y:=Hd b5;have h:Hid (Calls prog 101 #[.pointer (some ⟨f,0,none⟩),.slice (some ⟨u.heap.size,0,none⟩) 1 1] (u.alloc (.cells #[.string ⟨#[98,111,111,108]⟩] 9)) _):=Hd (Zeb D.o Zbq (Zed E.o) (by decide));clear v b5 a;go_wp2_with fail;refine h.o.mono ?_;rintro e M⟨rfl,j,s⟩;have F:=Hd j;have I:=Hd (y.o.trans s);clear j s h;go_wp2;go_end0
 exact⟨rfl,F.o,I.o⟩
theorem Zr2 {A:Nat->Prop}{B:Nat->Nat}{Q I:Nat}{es:List Ent}{c:World}(m:Tab A c Q I B es)(u:Shape es){f lo:Nat}{p:Nat->Option Value}(q:p 0=some (.pointer (some ⟨Q,0,none⟩))){W:World}{stk loc:List (List UInt8)}(R:StW f lo p c W stk loc 0)(d:stk.length<=1000)(t:∀x∈stk,x.length<=9223372036854775807) :
  Calls prog 55 #[.pointer (some ⟨f,0,none⟩)] W (OpG f lo p c (ZbE es [Zbq,Zbq] [Zbq]) stk loc W):=by
 have a:Hid (∀W,Calls prog 106 #[.pointer (some ⟨f,0,none⟩),.string ⟨#[98,111,111,108]⟩] W (SubG f Zbq W)):=Hd (ZaT f Zbq);unfold SubG at a;have w:=Hd (Zrs m u q R d t Zbq (by decide));have K:=Hd d;clear m u R d t q;go_enter func55,ntmps55
 go_wp2_with fail;with_reducible refine(a.o W).mono ?_
 rintro e r⟨N,M,rfl,E,s,j,g,n⟩;go_wp2_with fail;with_reducible refine(a.o r).mono ?_
 rintro e w2⟨O,P,rfl,i,z,y,F,l⟩;have b:=Hd (w.o r w2 N M O P E s j g n i z y F l);clear E s j g n i z y F l w a;go_wp2_with fail;with_reducible refine b.o.mono ?_
 rintro e C⟨⟨T,rfl⟩,D,b5⟩;have J:=Hd D;have G:=Hd b5;have h:Hid (Calls prog 101 #[.pointer (some ⟨f,0,none⟩),.slice (some ⟨C.heap.size,0,none⟩) 1 1] (C.alloc (.cells #[.string ⟨#[98,111,111,108]⟩] 9)) _):=Hd (Zeb J.o Zbq (Zed K.o) (by decide));clear D b5 b;go_wp2_with fail;refine h.o.mono ?_;rintro e U⟨rfl,k,v⟩;have L:=Hd k;have H:=Hd (G.o.trans v);clear k v h;go_wp2;go_end0
 exact⟨rfl,L.o,H.o⟩
theorem ZqI {A:Nat->Prop}{B:Nat->Nat}{Q I:Nat}{es:List Ent}{c:World}(m:Tab A c Q I B es)(u:Shape es){f lo:Nat}{p:Nat->Option Value}(q:p 0=some (.pointer (some ⟨Q,0,none⟩))){W:World}{stk loc:List (List UInt8)}(R:StW f lo p c W stk loc 0)(d:stk.length<=1000)(t:∀x∈stk,x.length<=9223372036854775807) :
  Calls prog 56 #[.pointer (some ⟨f,0,none⟩)] W (OpG f lo p c (ZbE es [Zfc,Zfc] [Zfc]) stk loc W):=by
 have a:Hid (∀W,Calls prog 106 #[.pointer (some ⟨f,0,none⟩),.string ⟨#[116,101,120,116]⟩] W (SubG f Zfc W)):=Hd (ZaT f Zfc);unfold SubG at a;have w:=Hd (Zrs m u q R d t Zfc (by decide));have K:=Hd d;clear m u R d t q;go_enter func56,ntmps56
 go_wp2_with fail;with_reducible refine(a.o W).mono ?_
 rintro e r⟨N,M,rfl,E,s,j,g,n⟩;go_wp2_with fail;with_reducible refine(a.o r).mono ?_
 rintro e w2⟨O,P,rfl,i,z,y,F,l⟩;have b:=Hd (w.o r w2 N M O P E s j g n i z y F l);clear E s j g n i z y F l w a;go_wp2_with fail;with_reducible refine b.o.mono ?_
 rintro e C⟨⟨T,rfl⟩,D,b5⟩;have J:=Hd D;have G:=Hd b5;have h:Hid (Calls prog 101 #[.pointer (some ⟨f,0,none⟩),.slice (some ⟨C.heap.size,0,none⟩) 1 1] (C.alloc (.cells #[.string ⟨#[116,101,120,116]⟩] 9)) _):=Hd (Zeb J.o Zfc (Zed K.o) (by decide));clear D b5 b;go_wp2_with fail;refine h.o.mono ?_;rintro e U⟨rfl,k,v⟩;have L:=Hd k;have H:=Hd (G.o.trans v);clear k v h;go_wp2;go_end0
 exact⟨rfl,L.o,H.o⟩
theorem Znv {A:Nat->Prop}{B:Nat->Nat}{C v:Nat}{es:List Ent}{c:World}(i:Tab A c C v B es)(n:Shape es){f lo:Nat}{p:Nat->Option Value}(k:p 0=some (.pointer (some ⟨C,0,none⟩))){W:World}{stk loc:List (List UInt8)}(D:StW f lo p c W stk loc 0)(d:stk.length<=1000)(m:∀x∈stk,x.length<=9223372036854775807) :
  Calls prog 58 #[.pointer (some ⟨f,0,none⟩)] W (OpG f lo p c (ZbE es [Zbq] []) stk loc W):=by
 have b:Hid (∀W,Calls prog 106 #[.pointer (some ⟨f,0,none⟩),.string ⟨#[98,111,111,108]⟩] W (SubG f Zbq W)):=Hd (ZaT f Zbq);unfold SubG at b;have q:=Hd (ZpO i n k D d m Zbq (by decide));have F:=Hd d;clear i n D d m k;go_enter func58,ntmps58
 go_wp2_with fail;with_reducible refine(b.o W).mono ?_
 rintro e u⟨z,y,rfl,s,l,h,g,j⟩;have a:=Hd (q.o u z y s l h g j);clear s l h g j q b;go_wp2_with fail;with_reducible refine a.o.mono ?_
 rintro e G⟨⟨E,rfl⟩,r,b5⟩;have w:=Hd r;have t:=Hd b5;clear r b5 a;go_wp2;go_end0
 exact⟨rfl,by have H:=w.o;unfold OpM.stk;rw[show(ZbE es [Zbq] []).put=fun _ _=>[]from rfl,YaN];exact H,t.o⟩
theorem ZsD {A:Nat->Prop}{B:Nat->Nat}{C v:Nat}{es:List Ent}{c:World}(i:Tab A c C v B es)(n:Shape es){f lo:Nat}{p:Nat->Option Value}(k:p 0=some (.pointer (some ⟨C,0,none⟩))){W:World}{stk loc:List (List UInt8)}(D:StW f lo p c W stk loc 0)(d:stk.length<=1000)(m:∀x∈stk,x.length<=9223372036854775807) :
  Calls prog 59 #[.pointer (some ⟨f,0,none⟩)] W (OpG f lo p c (ZbE es [intL] []) stk loc W):=by
 have b:Hid (∀W,Calls prog 106 #[.pointer (some ⟨f,0,none⟩),.string ⟨#[105,110,116]⟩] W (SubG f intL W)):=Hd (ZaT f intL);unfold SubG at b;have q:=Hd (ZpO i n k D d m intL (by decide));have F:=Hd d;clear i n D d m k;go_enter func59,ntmps59
 go_wp2_with fail;with_reducible refine(b.o W).mono ?_
 rintro e u⟨z,y,rfl,s,l,h,g,j⟩;have a:=Hd (q.o u z y s l h g j);clear s l h g j q b;go_wp2_with fail;with_reducible refine a.o.mono ?_
 rintro e G⟨⟨E,rfl⟩,r,b5⟩;have w:=Hd r;have t:=Hd b5;clear r b5 a;go_wp2;go_end0
 exact⟨rfl,by have H:=w.o;unfold OpM.stk;rw[show(ZbE es [intL] []).put=fun _ _=>[]from rfl,YaN];exact H,t.o⟩
theorem Zrw {A:Nat->Prop}{B:Nat->Nat}{C v:Nat}{es:List Ent}{c:World}(i:Tab A c C v B es)(n:Shape es){f lo:Nat}{p:Nat->Option Value}(k:p 0=some (.pointer (some ⟨C,0,none⟩))){W:World}{stk loc:List (List UInt8)}(D:StW f lo p c W stk loc 0)(d:stk.length<=1000)(m:∀x∈stk,x.length<=9223372036854775807) :
  Calls prog 72 #[.pointer (some ⟨f,0,none⟩)] W (OpG f lo p c (ZbE es [Zbe] []) stk loc W):=by
 have b:Hid (∀W,Calls prog 106 #[.pointer (some ⟨f,0,none⟩),.string ⟨#[70,97,117,108,116]⟩] W (SubG f Zbe W)):=Hd (ZaT f Zbe);unfold SubG at b;have q:=Hd (ZpO i n k D d m Zbe (by decide));have F:=Hd d;clear i n D d m k;go_enter func72,ntmps72
 go_wp2_with fail;with_reducible refine(b.o W).mono ?_
 rintro e u⟨z,y,rfl,s,l,h,g,j⟩;have a:=Hd (q.o u z y s l h g j);clear s l h g j q b;go_wp2_with fail;with_reducible refine a.o.mono ?_
 rintro e G⟨⟨E,rfl⟩,r,b5⟩;have w:=Hd r;have t:=Hd b5;clear r b5 a;go_wp2;go_end0
 exact⟨rfl,by have H:=w.o;unfold OpM.stk;rw[show(ZbE es [Zbe] []).put=fun _ _=>[]from rfl,YaN];exact H,t.o⟩
theorem Zqd (v:Value)(w:World):Calls prog 104 #[v] w (fun e w'=>e=.returned (.bool true)/\w'=w):=by
 go_enter func104,ntmps104;go_wp2;go_ret;exact⟨rfl,rfl⟩
theorem Zc3 {r lo:Nat}{p:Nat->Option Value}{k c W:World}{stk loc:List (List UInt8)}{er:Nat}(q:StW r lo p k c stk loc er)(f:Below c.heap.size c W)(g:stk.length<=1048576)(d j m:Nat)(h:1<=m)(y:m<=100)
  (l:∀i,i<m->W.cell? ⟨d,i,none⟩=some (.func (.func 104) #[] #[]))(n:c.heap.size<=d) :
  Calls prog 103 #[.pointer (some ⟨r,0,none⟩),.slice (some ⟨d,0,none⟩) m j] W (Tk7G c.heap.size (fun _=>False) r lo p k m (fun _ _=>true) stk loc er (fun _=>True) W):=by
 have a:(List.replicate m (⟨104,#[],#[]⟩:Zln)).length=m:=Ybm;refine Zh3 q f g d j m (List.replicate m ⟨104,#[],#[]⟩) (fun _ _=>true) (fun _ _=>True) (fun _=>False) a.symm (by rw[a];exact h) (by rw[a];omega)
  (fun i t b=>?_) n (fun t b=>?_) trivial (fun _ _ _ _ _=>trivial) (fun _ _ _ _=>⟨trivial,trivial⟩) (fun x i t s b C V B=>?_) (fun _ A=>A.elim)
 ·have v:i<m:=by have:=(Yag.1 b).1;rw[a]at this;exact this
  obtain rfl:=(Ybt.1 (Yaf b)).2;exact l i v
 ·obtain rfl:=(Ybt.1 b).2;exact Zac func104 (by kernel_rfl) rfl
 ·obtain rfl:=(Ybt.1 (Yaf b)).2;exact(Zqd (.string (S s)) V).mono (fun e z ⟨u,w⟩=>⟨u,trivial,by rw[w];exact Yak _ _⟩)
theorem Zgw {m:Nat}{stk:List (List UInt8)}{er:Nat}:∀x∈Zb7 m stk er,x∈stk\/x=[]:=by
 intro x a;unfold Zb7 at a;split at a
 ·exact .inl (List.mem_of_mem_drop a)
 ·exact .inr (Ybt.1 a).2
theorem Zgx (stk:List (List UInt8))(er:Nat):∃x,Zb7 1 stk er=[x]:=by
 have a:=Zjl 1 stk er
 match b:Zb7 1 stk er,a with
 |[x],_=>exact⟨x,rfl⟩
theorem Zjm (stk:List (List UInt8))(er:Nat):∃x a,Zb7 2 stk er=[x,a]:=by
 have b:=Zjl 2 stk er
 match c:Zb7 2 stk er,b with
 |[x,a],_=>exact⟨x,a,rfl⟩
theorem Ztn {q lo:Nat}{p:Nat->Option Value}{f W:World}{stk loc:List (List UInt8)}(n:StW q lo p f W stk loc 0)(t:stk.length<=1000) :
  Calls prog 48 #[.pointer (some ⟨q,0,none⟩)] W (OpG q lo p f ⟨fun _=>0,1,fun _ _=>true,fun _ _=>[],none⟩ stk loc W):=by
 have a:Below W.heap.size W (W.alloc (.cells #[.func (.func 104) #[] #[]] 107)):=Zaa (Yab _ _) _;have k:=Box.new W #[.func (.func 104) #[] #[]] 107;have b:=Hd (Zc3 n a (by omega) W.heap.size 1 1 (by decide) (by decide) (fun i s=>by obtain rfl:i=0:=(by omega);exact k.cell 0 rfl) (Yad _));have l:=Hd (a.mono n.lo1);unfold Tk7G at b;clear n a k;go_enter func48,ntmps48
 go_wp2_with fail;with_reducible refine b.o.mono ?_
 rintro e m⟨u,rfl,g,c,_,d,_,_⟩;have h:=Hd (c m (Yak _ _));have j:=Hd (l.o.trans d);clear g c d b;go_wp2;go_end0
 exact⟨rfl,by have r:=h.o;unfold OpM.stk;rw[show(⟨fun _=>0,1,fun _ _=>true,fun _ _=>[],none⟩:OpM).put=fun _ _=>[]from rfl,YaN];exact r,j.o⟩
theorem Zs7 {I lo:Nat}{p:Nat->Option Value}{s W:World}{stk loc:List (List UInt8)}(N:StW I lo p s W stk loc 0)(ad:stk.length<=1000)(F:∀x∈stk,x.length<=1000000) :
  Calls prog 49 #[.pointer (some ⟨I,0,none⟩)] W (OpG I lo p s ⟨fun _=>0,1,fun _ _=>true,fun t _=>[t.getD 0 [],t.getD 0 []],none⟩ stk loc W):=by
 have g:Below W.heap.size W (W.alloc (.cells #[.func (.func 104) #[] #[]] 107)):=Zaa (Yab _ _) _;have D:=Box.new W #[.func (.func 104) #[] #[]] 107;have c:=Hd (Zc3 N g (by omega) W.heap.size 1 1 (by decide) (by decide) (fun i Z=>by obtain rfl:i=0:=(by omega);exact D.cell 0 rfl) (Yad _));have K:=Hd (g.mono N.lo1);obtain⟨x,k⟩:=Zgx stk 0;have q:x.length<=1000000:=by
  rcases Zgw x (by rw[k];exact Yam)with e|e
  ·exact F x e
  ·rw[e];simp
 have L:=Hd k;have E:=Hd q;unfold Tk7G at c;rw[k]at c;clear N g D k F q;go_enter func49,ntmps49
 go_wp2_with fail;with_reducible refine c.o.mono ?_
 rintro e a⟨aa,rfl,h,f,_,l,_,_⟩;obtain⟨ab,Y,rfl⟩:=h.shape;obtain⟨b,o,u,rfl,P,_,H⟩:=Src.elem h 0 x rfl;obtain rfl:=P;have j:a.cell? ⟨b,o+0,none⟩=some (.string (S x)):=by have J:=H 0 _ rfl;rw[Ycc]at J;exact J
 rw[YbO]at j;have d:=f a.drew ((Yak _ _).drew);have y:=Hd (ZaY (n:=2) d [x,x] #[.string (S x),.string (S x)] rfl rfl (by simp) (by have r:=Zbh 1 stk 0;omega) (fun af A=>by simp only[Yai,Yat,or_false]at A;have:=E.o;rcases A with rfl|rfl<;>omega) 9);have G:=Hd (K.o.trans (l.trans ((Zab (Yab a.heap.size a)).mono (f a (Yak _ _)).lo1)));have X:Hid (∀V,Below a.heap.size a V->V.cell? ⟨b,o,none⟩=some (.string (S x))):=Hd (fun V T=>(Yae (S:=fun _=>False) T).cell j id);clear h f d l c H;have O:=(Yak (fun _=>False) a).drew.cell j id;have z:Hid (∀args w,(callFunc 101 args).run prog w=.ok (.enter 101 args) w):=Hd (Zac func101 (by kernel_rfl) rfl);have m:=Hd (y.o.mono (R':=fun e w'=>∃v,e=.returned v/\(v=.tuple #[]/\StW I lo p s w' (Zb4 1 stk 0++[x,x]) loc (Zc2 1 (fun _ _=>true) stk 0)/\Below lo a.drew w')) (fun e w' ⟨U,Q,M⟩=>⟨_,U,rfl,Q,M⟩));clear y j X;go_upto_region 1 with fail
 (go_region_law (refine Zcu (by rfl) 101 #[.tmp 6,.tmp 13] #[55,22] (by rfl) #[.pointer (some ⟨I,0,none⟩),.slice (some ⟨a.drew.heap.size,0,none⟩) 2 2] (by rfl) (z.o _ _) m.o ?_;rintro ae ac⟨rfl,C,r⟩))
 all_goals
  have R:=Hd C;have B:=Hd (G.o.trans r);clear C r m O z;go_wp2;go_end0
  exact⟨rfl,by have J:=R.o;unfold OpM.stk OpM.loc OpM.er;rw[L.o];exact J,B.o⟩
theorem Zlj {W:World}{b:Nat}{u v x g:Value}(f:W.cell? ⟨b,0,none⟩=some x)(d:W.cell? ⟨b,1,none⟩=some g):((W.setCell ⟨b,0,none⟩ u).setCell ⟨b,1,none⟩ v).cell? ⟨b,0,none⟩=some u/\((W.setCell ⟨b,0,none⟩ u).setCell ⟨b,1,none⟩ v).cell? ⟨b,1,none⟩=some v:=by
 have c:=World.cell?_setCell_same' W ⟨b,0,none⟩ u (by rw[f];rfl);have a:(W.setCell ⟨b,0,none⟩ u).cell? ⟨b,1,none⟩=some g:=by rw[World.cell?_setCell_other W ⟨b,0,none⟩ ⟨b,1,none⟩ u (by intro e;injection e with _ e;cases e)];exact d
 refine⟨?_,World.cell?_setCell_same' _ ⟨b,1,none⟩ v (by rw[a];rfl)⟩;rw[World.cell?_setCell_other _ ⟨b,1,none⟩ ⟨b,0,none⟩ v (by intro e;injection e with _ e;cases e)];exact c
theorem Zrg (b c:Nat)(x m:List UInt8)(w:World)(j:w.cell? ⟨b,0,none⟩=some (.string (S x)))(u:w.cell? ⟨b,1,none⟩=some (.string (S m)))(f:∀B,w.frozen? ⟨b,B,none⟩=false) :
  Calls prog 105 #[.slice (some ⟨b,0,none⟩) 2 c] w (fun e w'=>e=.returned (.tuple #[])/\w'.cell? ⟨b,0,none⟩=some (.string (S m))/\w'.cell? ⟨b,1,none⟩=some (.string (S x))/\Only (fun i=>i=b) w w'):=by
 have q:=f 0;have r:=f 1;have k:w.drew.cell? ⟨b,0,none⟩=some (.string (S x)):=j;have l:w.drew.cell? ⟨b,1,none⟩=some (.string (S m)):=u;have C:w.drew.frozen? ⟨b,0,none⟩=false:=q;have A:w.drew.frozen? ⟨b,1,none⟩=false:=r;have z:=World.block_lt_of_cell? w ⟨b,0,none⟩ j;clear f;go_enter func105,ntmps105
 go_wp2_with fail;go_loopw [2,3] (fun a n wr=>(a=.int .i64 0/\n=.int .i64 1/\wr=w)\/(a=.int .i64 1/\n=.int .i64 0/\wr.cell? ⟨b,0,none⟩=some (.string (S m))/\wr.cell? ⟨b,1,none⟩=some (.string (S x))/\Only (fun i=>i=b) w wr)) (fun a _ _=>2-(intOf a).toNat)
 case atStart=>exact .inl ⟨rfl,rfl,rfl⟩
 case round=>
  rcases hrel with⟨rfl,rfl,rfl⟩|⟨rfl,rfl,h,g,d⟩
  ·have v:Hid (Only (fun i=>i=b) wr ((wr.drew.setCell ⟨b,0,none⟩ (.string (S m))).setCell ⟨b,1,none⟩ (.string (S x)))):=Hd ((((Yak (fun i=>i=b) wr).drew).setCell (p:=⟨b,0,none⟩) rfl _).setCell (p:=⟨b,1,none⟩) rfl _);go_wp2_with fail;go_region
   all_goals
    go_wp2;go_roundw
    case rel=>exact .inr ⟨by go_num,by go_num,(Zlj k l).1,(Zlj k l).2,v.o⟩
    case measure=>simp[intOf]
  ·have t:=Hd h;have s:=Hd g;have y:=Hd d;clear h g d;go_wp2;go_end0
   exact⟨rfl,t.o,s.o,y.o⟩
theorem ZsM {Z lo:Nat}{p:Nat->Option Value}{ar W:World}{stk loc:List (List UInt8)}(aa:StW Z lo p ar W stk loc 0)(aI:stk.length<=1000)(ah:∀x∈stk,x.length<=1000000) :
  Calls prog 50 #[.pointer (some ⟨Z,0,none⟩)] W (OpG Z lo p ar ⟨fun _=>0,2,fun _ _=>true,fun t _=>[t.getD 1 [],t.getD 0 []],none⟩ stk loc W):=by
 have n:Below W.heap.size W (W.alloc (.cells #[.func (.func 104) #[] #[],.func (.func 104) #[] #[]] 107)):=Zaa (Yab _ _) _;have X:=Box.new W #[.func (.func 104) #[] #[],.func (.func 104) #[] #[]] 107;have h:=Hd (Zc3 aa n (by omega) W.heap.size 2 2 (by decide) (by decide) (fun i ax=>by
  have ac:i=0\/i=1:=(by omega);rcases ac with rfl|rfl
  ·exact X.cell 0 rfl
  ·exact X.cell 1 rfl) (Yad _))
 have au:=Hd (n.mono aa.lo1);have aj:=Hd aa.lt;have G:=Hd aa.lo1;obtain⟨x,V,y⟩:=Zjm stk 0;have O:∀z∈[x,V],z.length<=1000000:=fun z hz=>by
  rcases Zgw z (by rw[y];exact hz)with e|e
  ·exact ah z e
  ·rw[e];simp
 have ay:=Hd y;have ap:=Hd O;have P:(W.alloc (.cells #[.func (.func 104) #[] #[],.func (.func 104) #[] #[]] 107)).heap.size=W.heap.size+1:=by simp
 unfold Tk7G at h;rw[y,P]at h;clear aa n X y ah O P;go_enter func50,ntmps50
 go_wp2_with fail;with_reducible refine h.o.mono ?_
 rintro e C⟨aO,rfl,g,D,_,L,_,j,l,rfl,M,_⟩;have f:2<=l/\l<=9223372036854775807:=by
  rcases g with⟨_,_,d,a⟩|⟨b,o,aC,d,⟨_,_,a,R⟩,_⟩
  ·cases a
  ·simp only[Value.slice.injEq]at d;obtain⟨_,_,rfl⟩:=d;exact⟨a,R⟩
 obtain⟨aG,aP,aM,J,am,_,m⟩:=Src.elem g 0 x rfl;obtain⟨aF,aJ,aL,E,ag,_,K⟩:=Src.elem g 1 V rfl;obtain rfl:=am;obtain rfl:=ag;simp only[Ya1,Ybz,and_true]at J E;obtain⟨rfl,rfl⟩:=J;obtain⟨rfl,rfl⟩:=E;have H:=Hd (Zrg (W.heap.size+1) l x V C (by have A:=m 0 _ rfl;rw[Ycc]at A;exact A) (by have A:=K 0 _ rfl;rw[Nat.one_mul]at A;exact A) M);have N:=Hd D;have ai:=Hd (au.o.trans L);have ae:=Hd j;have Q:=Hd (show W.heap.size+1<C.heap.size from World.block_lt_of_cell? C ⟨W.heap.size+1,0,none⟩ (by have A:=m 0 _ rfl;rw[Ycc]at A;exact A));clear g D L j M m K h;go_wp2_with fail;with_reducible refine H.o.mono ?_
 rintro e T⟨rfl,aq,af,c⟩;have r:=N.o T (c.mono (fun i _ e=>by rw[e];exact Nat.le_succ _));have U:=c.size;have q:Src 1 StrR (fun i=>i=W.heap.size+1) T (.slice (some ⟨W.heap.size+1,0,none⟩) 2 l) [V,x]:=.inr ⟨W.heap.size+1,0,l,rfl,⟨rfl,by have:=Q.o;omega,f.1,f.2⟩,fun k z hz=>by
  match k,hz with
  |0,hz=>
   obtain rfl:=Yac hz;refine⟨strV V,rfl,rfl,fun ab u w=>?_⟩;have s:ab=0:=by have:ab<(strV V).cells.size:=(Ybb.1 w).1;simp[Value.cells]at this;exact this
   subst s;have Y:u=strV V:=by simpa[Value.cells]using w.symm
   subst Y;exact aq
  |1,hz=>
   obtain rfl:=Yac hz;refine⟨strV x,rfl,rfl,fun ab u w=>?_⟩;have s:ab=0:=by have:ab<(strV x).cells.size:=(Ybb.1 w).1;simp[Value.cells]at this;exact this
   subst s;have Y:u=strV x:=by simpa[Value.cells]using w.symm
   subst Y;exact af
  |k+2,hz=>cases hz⟩
 have v:∀sv,T.cell? ⟨Z,11,none⟩=some sv->∀i,i=W.heap.size+1->i≠Z/\sv.ownBlock≠some i:=fun sv ao i ax=>by
  have y:=aj.o;refine⟨by omega,fun e=>?_⟩;obtain⟨cs,aA,aH,d,a,R,aN,aD,av,aR,aE,aQ,aB,az⟩:=(N.o C (Yak _ _)).ex;have F:=av.cell 11 R;have I:=c.cell F (by show ¬(Z=W.heap.size+1);omega);rw[ao]at I;obtain rfl:=Yac I;have:=ae.o _ F i e;omega
 have ak:=Hd (Zk9 r q v (by have a:=Zbh 2 stk 0;simp;omega) (fun z hz=>by have:=ap.o z (by simp only[Yai,Yat,or_false]at hz⊢;rcases hz with e|e;exact .inr e;exact .inl e);omega));have ad:=Hd (ai.o.trans (c.below (B:=lo) (by have d:=Q.o;have a:=G.o;omega) (fun i e=>by have a:=G.o;omega)));clear r q v aq af c U H f;go_wp2_with fail;with_reducible refine ak.o.mono ?_
 rintro e aK⟨rfl,d,a⟩;have aw:=Hd d;have al:=Hd (ad.o.trans a);clear d a ak;go_wp2;go_end0
 exact⟨rfl,by have A:=aw.o;unfold OpM.stk OpM.loc OpM.er;rw[ay.o];exact A,al.o⟩
