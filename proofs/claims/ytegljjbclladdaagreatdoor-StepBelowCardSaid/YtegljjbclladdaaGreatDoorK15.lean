/- laws -/
import Derived.Test.YtegljjbclladdaaGreatDoorK14
set_option maxRecDepth 100000
set_option maxHeartbeats 16000000
namespace Go.Proofs.YtegljjbclladdaaGreatDoor
open Go.RowKit Tryz
def topL (l:List UInt8):List UInt8:=if Zag l then Zbp l else l
theorem ZpS {l:List UInt8}(b:depN l=0):topL l=l:=by
 unfold topL;split
 ·rename_i a;rw[ZbP a]at b;unfold Zbp;rw[b,Nat.mul_zero,Nat.sub_zero,YaE]
 ·rfl
theorem ZpR {l:List UInt8}(c:0<depN l):topL (Zbd l)=topL l/\depN (Zbd l)<depN l/\(Zbd l).length<=l.length:=by
 have a:Zag l=true:=by
  cases a:Zag l with
  |true=>rfl
  |false=>rw[ZdE a]at c;cases c
 rw[ZbP a]at c⊢;obtain⟨b,f,_⟩:=ZlJ a c;have g:=ZdD l;have d:Zbd l=l.take (l.length-2):=by unfold Zbd;rw[Yay ⟨a,c⟩]
 refine⟨?_,by rw[ZbP b];omega,by rw[d,YaA];omega⟩;unfold topL;rw[Yay b,Yay a];unfold Zbp;rw[f,d,YcC,YaA]
 congr 1
 omega
def Zb6 (es:List Ent)(l:List UInt8):Bool:=Zay (topL l) || (Zad es (topL l)).isSome
def ZrV (v:Value)(w:World)(e:Ending)(w':World):Prop:=e=.returned v/\Below w.heap.size w w'
theorem Zhp {A:Nat->Prop}{B:Nat->Nat}{ab Y:Nat}{es:List Ent}{j:World}(I:Tab A j ab Y B es)(l:List UInt8)(w:World)(J:Below j.heap.size j w)(U:l.length<=9223372036854775807) :
  Calls prog 147 #[.pointer (some ⟨ab,0,none⟩),.string (S l)] w (Said (Zb6 es l) w):=by
 have P:=Hd J;have Z:=Hd U;have X:=Hd I;obtain⟨R,E⟩:∃R,R=Zb6 es l:=⟨_,rfl⟩
 rw[←E];have V:=Hd E;clear J U I E;go_enter func147,ntmps147;go_wp2
 go_loopg [1] (depN l+1) (fun gk W wr=>∃m:List UInt8,W=.string (S m)/\topL m=topL l/\m.length<=l.length/\depN m<gk/\Below w.heap.size w wr)
 case atStart=>exact⟨l,rfl,rfl,Yad _,Nat.lt_succ_self _,Yab _ _⟩
 case round=>
  obtain⟨m,rfl,i,t,y,D⟩:=hrel;have h:=Hd i;have k:=Hd D;have K:=Hd y;have Q:=Hd t;have F:m.length<=9223372036854775807:=by have:=Z.o;omega
  have f:=Hd (ZeC m wr F);unfold Zjx at f;clear i D y t;by_cases n:depN m=0
  ·have L:topL m=m:=ZpS n;rw[n]at f;have b:Hid (R=(Zay m || (Zad es m).isSome)):=Hd (by rw[V.o];unfold Zb6;rw[←h.o,L]);clear n L;go_wp2_with fail;refine f.o.mono ?_;rintro e r⟨rfl,c⟩;have a:=Hd (k.o.trans (c.mono k.o.size));clear c f;have H:=Hd (ZeT m r);go_wp2_with fail;refine H.o.mono ?_;rintro e w2⟨rfl,rfl⟩;clear H;generalize Zay m=p at b;cases p with
   |true=>
    obtain rfl:R=true:=by rw[b.o];rfl
    go_wp2;go_ret;exact⟨rfl,a.o⟩
   |false=>
    have z:Below j.heap.size j r:=P.o.trans (a.o.mono P.o.size);have g:=X.o.below z;have ad:=g.box.cell 0 rfl;have d:=g.look m F;clear z g;cases s:Zad es m with
    |none=>
     rw[s]at b d;obtain rfl:R=false:=by rw[b.o];rfl
     rw[Zdx]at d;clear s;go_wp2;go_ret;exact⟨rfl,a.o⟩
    |some ae=>
     rw[s]at b d;obtain rfl:R=true:=by rw[b.o];rfl
     rw[Zbv]at d;clear s;go_wp2;go_ret;exact⟨rfl,a.o⟩
  ·have M:0<depN m:=by omega
   obtain⟨G,N,T⟩:=ZpR M;have ac:(0:Int)<(depN m:Int):=by omega
   have q:=Hd (fun w=>ZkN m w F);unfold Zcc at q;have v:=Hd (G.trans h.o);have C:=Hd N;have u:=Hd (Yaj T Q.o);clear M G N T n;generalize Zbd m=aa at q v C u;go_wp2_with fail;refine f.o.mono ?_;rintro e r⟨rfl,c⟩;have a:=Hd (k.o.trans (c.mono k.o.size));clear c f;go_wp2_with fail;refine(q.o r).mono ?_;rintro e w2⟨rfl,x⟩;have O:=Hd (a.o.trans (x.mono a.o.size));clear x q;go_wp2;go_roundg (depN m)
   case measure=>exact K.o
   case rel=>exact⟨aa,rfl,v.o,u.o,C.o,O.o⟩
def Zcv:List UInt8:=[110,117,108,108]
def ZdX (es:List Ent)(l:List UInt8):Bool:=l==Zcv || Zb6 es l
theorem ZeM {A:Nat->Prop}{B:Nat->Nat}{k j:Nat}{es:List Ent}{b:World}(h:Tab A b k j B es)(l:List UInt8)(w:World)(g:Below b.heap.size b w)(c:l.length<=9223372036854775807) :
  Calls prog 175 #[.pointer (some ⟨k,0,none⟩),.string (S l)] w (Said (ZdX es l) w):=by
 have a:=Hd (Zhp h l w g c);have f:ZdX es l=(l==Zcv || Zb6 es l):=rfl;rw[f];clear f g c h;have p:=Zaf l;unfold Zcv;generalize Zb6 es l=d at a⊢;cases n:(l==[110,117,108,108])
 ·go_enter func175,ntmps175
  go_wp2_with fail;refine a.o.mono ?_;rintro e m⟨rfl,i⟩;clear a;go_wp2;go_ret;exact⟨rfl,i⟩
 ·clear a;go_enter func175,ntmps175;go_wp2;go_ret;exact⟨rfl,Yab _ _⟩
def derE (es:List Ent)(l:List UInt8):Option Nat:=if 0<depN l/\Zb6 es l=true then Zad es objL else Zad es l
theorem ZjM {A:Nat->Prop}{B:Nat->Nat}{F x:Nat}{es:List Ent}{j:World}(r:Tab A j F x B es)(l:List UInt8)(w:World)(E:Below j.heap.size j w)(y:l.length<=9223372036854775807) :
  Calls prog 167 #[.pointer (some ⟨F,0,none⟩),.string (S l)] w (ZrV (ptrV B (derE es l)) w):=by
 have q:=Hd (fun w' (i:Below j.heap.size j w')=>Zhp r l w' i y);have f:=Hd (ZeC l w y);unfold Zjx at f;have n:Hid (∀w',Below j.heap.size j w'->w'.cell? ⟨F,0,none⟩=some (.map (some x))/\(Instr.lookup 62 (.map (some x)) (.string (S l)) false).run prog w'=.ok (ptrV B (Zad es l)) w'/\
   (Instr.lookup 62 (.map (some x)) (.string ⟨#[79,98,106,101,99,116]⟩) false).run prog w'=.ok (ptrV B (Zad es objL)) w'):=Hd (fun w' i=>
  ⟨(r.below i).box.cell 0 rfl,(r.below i).look l y,(r.below i).look objL (by decide)⟩)
 have c:=Hd E;obtain⟨v,z⟩:∃v,v=ptrV B (derE es l):=⟨_,rfl⟩
 rw[←z];have m:=Hd z;clear E y r z;by_cases p:0<depN l
 ·have G:(0:Int)<(depN l:Int):=by omega
  cases k:Zb6 es l
  ·have d:derE es l=Zad es l:=by unfold derE;rw[Yar (by rw[k];simp)]
   rw[d]at m;have t:=Hd k;clear p d k;go_enter func167,ntmps167
   go_wp2_with fail;refine f.o.mono ?_;rintro e s⟨rfl,b⟩;have a:=Hd b;clear b f;go_wp2_with fail;refine(q.o s (c.o.trans (a.o.mono c.o.size))).mono ?_;rintro e w2⟨rfl,h⟩;have g:=Hd (a.o.trans (h.mono a.o.size));clear h q;rw[t.o];obtain⟨C,u,_⟩:=n.o w2 (c.o.trans (g.o.mono c.o.size));rw[←m.o]at u;clear n;go_wp2;go_ret;exact⟨rfl,g.o⟩
  ·have d:derE es l=Zad es objL:=by unfold derE;rw[Yay ⟨p,k⟩]
   rw[d]at m;have t:=Hd k;clear p d k;go_enter func167,ntmps167
   go_wp2_with fail;refine f.o.mono ?_;rintro e s⟨rfl,b⟩;have a:=Hd b;clear b f;go_wp2_with fail;refine(q.o s (c.o.trans (a.o.mono c.o.size))).mono ?_;rintro e w2⟨rfl,h⟩;have g:=Hd (a.o.trans (h.mono a.o.size));clear h q;rw[t.o];obtain⟨C,_,u⟩:=n.o w2 (c.o.trans (g.o.mono c.o.size));rw[←m.o]at u;clear n;go_wp2;go_ret;exact⟨rfl,g.o⟩
 ·have d:derE es l=Zad es l:=by unfold derE;rw[Yar (fun H=>p H.1)]
  rw[d]at m;have D:depN l=0:=by omega
  rw[D]at f;clear p d D q;go_enter func167,ntmps167
  go_wp2_with fail;refine f.o.mono ?_;rintro e s⟨rfl,b⟩;have a:=Hd b;clear b f;obtain⟨C,u,_⟩:=n.o s (c.o.trans (a.o.mono c.o.size));rw[←m.o]at u;clear n;go_wp2;go_ret;exact⟨rfl,a.o⟩
def Zf8 (es:List Ent):Nat->Option Nat->List Nat
 |0,_=>[]
 |_+1,none=>[]
 |n+1,some i=>match es[i]? with
  |some e=>i::Zf8 es n e.up
  |none=>[]
def Zan (es:List Ent)(o:Option Nat):List Nat:=Zf8 es es.length o
def ZaC (es:List Ent)(o:Option Nat):List Nat:=Zc4 es es.length (Zan es o)
structure Shape (es:List Ent):Prop where
 len:es.length<=1048576
 lk:∀(i:Nat) (e:Ent),es[i]?=some e->e.lk.length<=9223372036854775807
 fl:∀(i:Nat) (e:Ent),es[i]?=some e->e.cls.flds.length<=32
 nm:∀(i:Nat) (e:Ent),es[i]?=some e->e.cls.name.length<=32
 chain:∀i,i<es.length->ZdA es (Zan es (some i)) (some i)
 deep:∀(i:Nat) (e:Ent),es[i]?=some e->Deep es es.length e.lk
def nmE (es:List Ent)(x:Nat):List UInt8:=match es[x]? with|some e=>e.cls.name|none=>[]
theorem Zgi {es:List Ent}{x:Nat}{e:Ent}(a:es[x]?=some e):nmE es x=e.cls.name:=by unfold nmE;rw[a]
theorem Shape.nmE_le {es:List Ent}(b:Shape es)(x:Nat):(nmE es x).length<=32:=by
 unfold nmE;cases a:es[x]? with
 |none=>simp
 |some e=>exact b.nm x e a
theorem ZbF {es:List Ent}:∀ {L:List Nat} {o:Option Nat},ZdA es L o->∀d∈L,∃e,es[d]?=some e
 |[],_,_,d,hd=>by simp at hd
 |i::l,_,⟨_,e,he,hc⟩,d,hd=>by
  rcases Yai.1 hd with a|a
  ·subst a;exact⟨e,he⟩
  ·exact ZbF hc d a
theorem Zbi (es:List Ent):Zan es none=[]:=by
 unfold Zan;cases es.length<;>rfl
theorem ZaV {es:List Ent}{n:List UInt8}{i:Nat}(a:Zad es n=some i):i<es.length:=by
 unfold Zad at a;exact(YaX.1 a).1
theorem Shape.line {es:List Ent}(b:Shape es)(o:Option Nat)(a:∀i,o=some i->i<es.length):ZdA es (Zan es o) o:=by
 cases o with
 |none=>rw[Zbi];exact rfl
 |some i=>exact b.chain i (a i rfl)
theorem Shape.mem {es:List Ent}(f:Shape es){L:List Nat}{o:Option Nat}(c:ZdA es L o):∀d∈L,∃e,es[d]?=some e/\Deep es es.length e.lk:=fun d b=>by
 obtain⟨e,a⟩:=ZbF c d b;exact⟨e,a,f.deep d e a⟩
theorem ZdQ {es:List Ent}(d:Shape es){o:Option Nat}(b:∀i,o=some i->i<es.length):∀x∈ZaC es o,x<es.length:=fun x c=>by
 rcases Yaq.1 c with a|a
 ·obtain⟨e,f⟩:=ZbF (d.line o b) x a;exact(Yag.1 f).1
 ·exact(ZiH (d.mem (d.line o b))).2 x a
theorem Zlo {A:Nat->Prop}{B:Nat->Nat}{K C:Nat}{es:List Ent}{n:World}(z:Tab A n K C B es)(c:Shape es)(s:Nat)(a:Array Value)(E:∀args w,(callFunc s args).run prog w=.ok (.enter s args) w)
  (o:Option Nat)(g:∀i,o=some i->i<es.length)(p:Nat->Bool)(w:World)(t:Below n.heap.size n w)(I:∀x w',x<es.length->Below w.heap.size w w'->Calls prog s (#[entV B x]++a) w' (Said (p x) w')) :
  Calls prog 180 #[ptrV B o,.func (.func s) #[] a] w (Said ((ZaC es o).any p) w):=by
 have v:=c.line o g;refine(Zia z c.len c.lk s a E w.heap.size es.length o (Zan es o) v (c.mem v) (fun k w'=>Below w.heap.size w w'/\((ZaC es o).take k).any p=false) (fun _ w'=>Below w.heap.size w w'/\(ZaC es o).any p=true) w (Yad _)
  (fun k w' u=>t.trans (u.1.mono t.size)) (fun k L w2 u g=>⟨u.1.trans (Only.below g u.1.size (fun i D=>D)),u.2⟩) (fun k x w' G j=>?_) ⟨Yab _ _,by simp⟩).mono fun e w' M=>?_
 ·have d:(ZaC es o)[k]?=some x:=G;refine(I x w' (ZdQ c g x (Yaf d)) j.1).mono fun e J ⟨f,h⟩=>?_;have r:=j.1.trans (h.mono j.1.size);refine⟨⟨p x,f,fun m=>⟨r,YaU.2 ⟨x,Yaf d,m⟩⟩,fun m=>⟨r,?_⟩⟩,Yae h⟩;rw[Zap p _ k x d,j.2,m];rfl
 ·obtain⟨b,f,h,H⟩:=M;cases b with
  |true=>
   obtain⟨_,_,l,q⟩:=h rfl;exact⟨by rw[q];exact f,l⟩
  |false=>
   obtain⟨l,q⟩:=H rfl;have y:(ZaC es o).any p=false:=by
    have F:((ZaC es o).take (ZaC es o).length).any p=false:=q
    rwa [YaE]at F
   exact⟨by rw[y];exact f,l⟩
theorem ZoL {A:Nat->Prop}{B:Nat->Nat}{C s:Nat}{es:List Ent}{j:World}(r:Tab A j C s B es)(n:Nat)(a:Array Value)(t:∀args w,(callFunc n args).run prog w=.ok (.enter n args) w)
  (L:List Nat)(o:Option Nat)(u:ZdA es L o)(p:Nat->Bool)(w:World)(q:Below j.heap.size j w)(y:∀x w',x∈L->Below w.heap.size w w'->Calls prog n (#[entV B x]++a) w' (Said (p x) w')) :
  Calls prog 143 #[ptrV B o,.func (.func n) #[] a] w (Said (L.any p) w):=by
 refine(Zfu r n a L o (fun k w'=>Below w.heap.size w w'/\(L.take k).any p=false) (fun _ w'=>Below w.heap.size w w'/\L.any p=true) w t u
  (fun k w' D=>q.trans (D.1.mono q.size)) ⟨Yab _ _,by simp⟩ (fun k x w' l f=>?_)).mono fun e w' E=>?_
 ·refine(y x w' (Yaf l) f.1).mono fun e z ⟨c,i⟩=>?_;have m:=f.1.trans (i.mono f.1.size);refine⟨p x,c,fun h=>⟨m,YaU.2 ⟨x,Yaf l,h⟩⟩,fun h=>⟨m,?_⟩⟩;rw[Zap p _ k x l,f.2,h];rfl
 ·obtain⟨b,c,i,v⟩:=E;cases b with
  |true=>
   obtain⟨_,_,g,d⟩:=i rfl;exact⟨by rw[d];exact c,g⟩
  |false=>
   obtain⟨g,d⟩:=v rfl;rw[YaE]at d;exact⟨by rw[d];exact c,g⟩
theorem Zld:(prog.info? 80).map (·.size)=some 11:=by kernel_rfl
theorem Zqx (a:Addr)(w:World):(binOp .eql 77 (.pointer (some a)) (.pointer (some a))).run prog w=.ok (.bool true) w:=by
 obtain⟨i,b,_⟩:=YaO.1 Zld;exact run_eql_ptr_same w a underlying77 b
theorem Zn2 {w:World}{x j:Nat}{f d:Array Value}{b g:TypeId}(a:x≠j)(c:Box w x f b)(k:Box w j d g):(binOp .eql 77 (.pointer (some ⟨x,0,none⟩)) (.pointer (some ⟨j,0,none⟩))).run prog w=.ok (.bool false) w:=by
 obtain⟨i,h,l⟩:=YaO.1 Zld;exact run_eql_ptr_other w underlying77 h (by omega) (fun e=>a (by injection e)) c k
theorem Zrr {A:Nat->Prop}{B:Nat->Nat}{q n:Nat}{es:List Ent}{w:World}(d:Tab A w q n B es)(x:Nat)(o:Option Nat)(f:x<es.length)(g:∀i,o=some i->i<es.length)(c:Nat)(b:w.cell? ⟨c,0,none⟩=some (ptrV B o)) :
  Calls prog 181 #[entV B x,.pointer (some ⟨c,0,none⟩)] w (Said (some x==o) w):=by
 cases o with
 |none=>
  have k:w.cell? ⟨c,0,none⟩=some (.pointer none):=b;clear b g d f;go_enter func181,ntmps181;go_wp2;go_ret;exact⟨rfl,Yab _ _⟩
 |some h=>
  have k:w.cell? ⟨c,0,none⟩=some (.pointer (some ⟨B h,0,none⟩)):=b;by_cases e:x=h
  ·subst e;have a:(some x==some x)=true:=by simp
   rw[a];have m:=Zqx ⟨B x,0,none⟩ w;clear b g d f a;go_enter func181,ntmps181;go_wp2;go_ret;exact⟨rfl,Yab _ _⟩
  ·obtain⟨_,_,_,_,j,_⟩:=d.ent x _ (Yaa f);obtain⟨_,_,_,_,l,_⟩:=d.ent h _ (Yaa (g h rfl));have m:=Zn2 (fun p=>e (d.inj x h f (g h rfl) p)) j l;have a:(some x==some h)=false:=by simp[e]
   rw[a];clear b a j l e;go_enter func181,ntmps181;go_wp2;go_ret;exact⟨rfl,Yab _ _⟩
def subE (es:List Ent)(a b:List UInt8):Bool:=
 ZdX es a&&(ZdX es b&&(a==b || (if a==Zcv then !Zay b else if 0<depN a then b==objL else(ZaC es (Zad es a)).any (fun x=>some x==Zad es b))))
theorem Zgv {A:Nat->Prop}{B:Nat->Nat}{ah J:Nat}{es:List Ent}{s:World}(l:Tab A s ah J B es)(ad:Shape es)(a b:List UInt8)(w:World)(T:Below s.heap.size s w)(V:a.length<=9223372036854775807)(X:b.length<=9223372036854775807) :
  Calls prog 114 #[.pointer (some ⟨ah,0,none⟩),.string (S a),.string (S b)] w (Said (subE es a b) w):=by
 have ap:=Ymf;have q:=Hd (ZeM l a w T V);have t:=Hd (fun w' d=>ZeM l b w' d X);have m:Hid (∀w',Below s.heap.size s w'->w'.cell? ⟨ah,0,none⟩=some (.map (some J))/\(Instr.lookup 62 (.map (some J)) (.string (S a)) false).run prog w'=.ok (ptrV B (Zad es a)) w'/\
   (Instr.lookup 62 (.map (some J)) (.string (S b)) false).run prog w'=.ok (ptrV B (Zad es b)) w'):=Hd (fun w' d=>
  ⟨(l.below d).box.cell 0 rfl,(l.below d).look a V,(l.below d).look b X⟩)
 have n:Hid (∀(w':World),Below s.heap.size s w'->Calls prog 180 #[ptrV B (Zad es a),.func (.func 181) #[] #[.pointer (some ⟨w'.heap.size,0,none⟩)]] (w'.alloc (.cells #[ptrV B (Zad es b)] 77))
   (Said ((ZaC es (Zad es a)).any (fun x=>some x==Zad es b)) (w'.alloc (.cells #[ptrV B (Zad es b)] 77)))):=Hd (fun w' d=>
  Zlo l ad 181 _ (Zac func181 (by kernel_rfl) rfl) _ (fun i U=>ZaV U) _ _ (Zaa d _) (fun x ao ak G=>
   Zrr (l.below ((Zaa d _).trans (G.mono (Zaa d _).size))) x (Zad es b) ak (fun i U=>ZaV U) w'.heap.size (((Box.new w' #[ptrV B (Zad es b)] 77).below G).cell 0 rfl)))
 have f:=Hd (fun w=>ZeT b w);have c:=Hd (fun w=>ZeC a w V);unfold Zjx at c;have I:=Hd T;obtain⟨R,D⟩:∃R,R=subE es a b:=⟨_,rfl⟩
 rw[←D];unfold subE at D;generalize ZdX es a=al at q D;generalize ZdX es b=am at t D;have au:=Zaf a;have ar:=Zaf b;have z:=Hd D;clear D T l ad;cases al with
 |false=>
  obtain rfl:R=false:=z.o;clear t n m f c z;go_enter func114,ntmps114
  go_wp2_with fail;refine q.o.mono ?_;rintro e ab⟨rfl,u⟩;clear q;go_wp2;go_ret;exact⟨rfl,u⟩
 |true=>
  go_enter func114,ntmps114
  go_wp2_with fail;refine q.o.mono ?_;rintro e ab⟨rfl,u⟩;have y:=Hd u;clear u q;go_wp2_with fail;refine(t.o ab (I.o.trans (y.o.mono I.o.size))).mono ?_;rintro e w2⟨rfl,O⟩;have j:=Hd (y.o.trans (O.mono y.o.size));clear O t y;cases am with
  |false=>
   obtain rfl:R=false:=z.o;clear n m f c z;go_wp2;go_ret;exact⟨rfl,j.o⟩
  |true=>
   have g:Hid (R=(a==b || (if a==Zcv then !Zay b else if 0<depN a then b==objL else(ZaC es (Zad es a)).any (fun x=>some x==Zad es b)))):=Hd z.o;clear z;cases v:(a==b)with
   |true=>
    obtain rfl:R=true:=by rw[g.o,v];rfl
    clear n m f c g;go_wp2;go_ret;exact⟨rfl,j.o⟩
   |false=>
    cases E:(a==[110,117,108,108])with
    |true=>
     have h:R = !Zay b:=by rw[g.o,v];unfold Zcv;rw[E];rfl
     have K:=Hd h;clear n m c g h;generalize Zay b=p at f K;go_wp2_with fail;refine(f.o _).mono ?_;rintro e C⟨rfl,rfl⟩;clear f;cases p
     all_goals
      have h:=K.o;subst h;go_wp2;go_ret;exact⟨rfl,j.o⟩
    |false=>
     by_cases H:0<depN a
     ·have h:R=(b==objL):=by rw[g.o,v];unfold Zcv;rw[E,YaV,Yar (by decide),Yay H]
      have K:=Hd h;have aq:(0:Int)<(depN a:Int):=by omega
      clear n m f g h H;go_wp2_with fail;refine(c.o _).mono ?_;rintro e C⟨rfl,r⟩;have k:=Hd (j.o.trans (r.mono j.o.size));clear r c;cases ac:(b==[79,98,106,101,99,116])
      all_goals
       have h:R=_:=K.o.trans ac;subst h;go_wp2;go_ret;exact⟨rfl,k.o⟩
     ·have h:R=(ZaC es (Zad es a)).any (fun x=>some x==Zad es b):=by rw[g.o,v];unfold Zcv;rw[E,YaV,Yar (by decide),Yar H]
      have Z:depN a=0:=by omega
      rw[Z]at c;rw[←h]at n;clear f g h H Z;go_wp2_with fail;refine(c.o _).mono ?_;rintro e C⟨rfl,r⟩;have k:=Hd (j.o.trans (r.mono j.o.size));have F:=Hd (I.o.trans (k.o.mono I.o.size));clear r c;obtain⟨ag,af,aa⟩:=m.o C F.o;have N:=Zaa F.o (.cells #[ptrV B (Zad es b)] 77);obtain⟨ae,W,ai⟩:=m.o _ N;clear ai;have L:=Hd (n.o C F.o);clear m n N;obtain⟨av,Q⟩:=Zc0 B (Zad es a);obtain⟨aj,P⟩:=Zc0 B (Zad es b);rw[Q]at af W L;rw[P]at aa ae W L;clear Q P;go_wp2_with fail;refine L.o.mono ?_;rintro e aw⟨rfl,M⟩;have Y:=Hd (k.o.trans (YbP (((Yab C.heap.size C).alloc (Yad _) (.cells #[.pointer aj] 77)).trans (M.mono (by simp))) k.o.size));clear M ag af aa ae W L;go_wp2;go_ret;exact⟨rfl,Y.o⟩
