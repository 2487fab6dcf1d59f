/- laws -/
import Derived.Test.YtegljjbclladdaaGreatDoorK10
import Derived.Deep.DrawnRows
import Derived.Lib.AppendZeros
set_option maxRecDepth 100000
set_option maxHeartbeats 16000000
namespace Go.Proofs.YtegljjbclladdaaGreatDoor
open Go.RowKit Tryz
theorem Zae {w V W:World}(a:Below w.heap.size w V)(b:Below V.heap.size V W):Below w.heap.size w W:=a.trans (b.mono a.size)
theorem Zaa {w V:World}(a:Below w.heap.size w V)(o:Obj):Below w.heap.size w (V.alloc o):=a.alloc a.size o
theorem Zab {w V:World}(a:Below w.heap.size w V):Below w.heap.size w V.drew:=⟨a.os,a.tape,a.output,a.size,a.block⟩
theorem Src.elem {α:Type}{n:Nat}{R:Zao α}{A:Nat->Prop}{w:World}{f:Option Addr}{m i:Nat}{l:List α}(p:Src n R A w (.slice f m i) l) :
  ∀(k:Nat) (x:α),l[k]?=some x->∃b o v,f=some ⟨b,o,none⟩/\R A w x v/\v.cells.size=n/\∀(s:Nat) u,v.cells[s]?=some u->w.cell? ⟨b,o+k*n+s,none⟩=some u:=by
 intro k x d;rcases p with⟨t,q,a,rfl⟩|⟨b,o,r,a,_,h⟩
 ·simp at d
 ·simp at a;obtain⟨v,j,c,g⟩:=h k x d;exact⟨b,o,v,a.1,j,c,g⟩
theorem Zft {α:Type}{p:α->Bool}{l:List α}{k:Nat}(c:(l.take k).any p=true):l.any p=true:=by
 rw[YaU]at c⊢;obtain⟨x,b,a⟩:=c;exact⟨x,Ybg b,a⟩
theorem Zki {A:Nat->Prop}(c:Cls)(v:Value)(w:World)(P:ClsR A w c v)(r:c.Fit) :
  Calls prog 93 #[v] w (Said c.many w):=by
 obtain⟨az,ay,aw,rfl,al,ag,Y⟩:=P;obtain⟨lo,ab,rfl⟩:=al.shape;obtain⟨X,fc,rfl⟩:=ag.shape;obtain⟨aa,Z,rfl⟩:=Y.shape;have y:Below w.heap.size w (w.alloc (.cells #[.string (S c.name),.string (S c.sup),.slice lo c.like.length ab,.bool c.itf,.bool c.abs,.bool c.fin,.slice X c.flds.length fc,.slice aa c.mths.length Z] 70)):=(Yab _ w).alloc (Yad _) _;have g:=Hd y;have u:=Hd (Box.new w #[.string (S c.name),.string (S c.sup),.slice lo c.like.length ab,.bool c.itf,.bool c.abs,.bool c.fin,.slice X c.flds.length fc,.slice aa c.mths.length Z] 70);have ac:=Hd (Src.elem (MthR.st.below Y y));obtain⟨n,F⟩:∃n,n=c.mths.length:=⟨_,rfl⟩
 have af:=Hd F;have ap:n<=9223372036854775807:=by rw[F];exact r.n3
 have av:=r.n1;have ao:=r.n2;have U:c.many=(decide (32<c.like.length) || (decide (32<c.flds.length) || (decide (32<n) || c.mths.any Mth.many))):=by rw[F];rfl
 have i:=Hd U;rw[←F]at y g u ac⊢;obtain⟨R,t⟩:∃R,R=c.many:=⟨_,rfl⟩
 rw[←t]at i⊢;have aA:Hid (∀x∈c.mths,x.Fit):=Hd r.mths;clear al ag Y y F U t r;go_enter func93,ntmps93;go_wp2;generalize w.alloc (.cells #[.string (S c.name),.string (S c.sup),.slice lo c.like.length ab,.bool c.itf,.bool c.abs,.bool c.fin,.slice X c.flds.length fc,.slice aa n Z] 70)=ai at g u ac⊢;obtain⟨B,ah⟩:∃B,B=w.heap.size:=⟨_,rfl⟩
 rw[←ah]at u⊢;clear ah;go_loopw [3] (fun ad wr=>∃k:Nat,k<=n/\ad=.int .i64 k/\(c.mths.take k).any Mth.many=false/\Below ai.heap.size ai wr) (fun ad _=>n-(intOf ad).toNat)
 case atStart=>exact⟨0,Yao _,rfl,by simp,Yab _ _⟩
 case round=>
  obtain⟨k,aB,rfl,z,N⟩:=hrel;have ak:=Hd z;have p:=Hd N;have aG:=(u.o.below N).cell 7 rfl;clear z N;by_cases au:k<n
  ·have V:k<c.mths.length:=by have:=af.o;omega
   obtain⟨x,Q⟩:∃x,c.mths[k]?=some x:=⟨_,Yaa V⟩
   have m:=Yae (S:=fun _=>False) p.o;obtain⟨b,o,v,rfl,P,ae,q⟩:=ac.o k x Q;have aC:=Hd (MthR.st.keep P m (fun _ _=>id));obtain⟨_,_,_,rfl,⟨G,D,rfl⟩,⟨K,E,rfl⟩,⟨C,H,rfl⟩⟩:=Zaj P;have aE:wr.cell? ⟨b,o+k*7,none⟩=some (.string (S x.name)):=m.cell (a:=⟨b,o+k*7,none⟩) (q 0 _ rfl) id;have aK:wr.cell? ⟨b,o+k*7+1,none⟩=some (.slice G x.params.length D):=m.cell (a:=⟨b,o+k*7+1,none⟩) (q 1 _ rfl) id;have aD:wr.cell? ⟨b,o+k*7+2,none⟩=some (.string (S x.res)):=m.cell (a:=⟨b,o+k*7+2,none⟩) (q 2 _ rfl) id;have aM:wr.cell? ⟨b,o+k*7+3,none⟩=some (.bool x.abs):=m.cell (a:=⟨b,o+k*7+3,none⟩) (q 3 _ rfl) id;have aH:wr.cell? ⟨b,o+k*7+4,none⟩=some (.int .i64 x.loc):=m.cell (a:=⟨b,o+k*7+4,none⟩) (q 4 _ rfl) id;have aL:wr.cell? ⟨b,o+k*7+5,none⟩=some (.slice K x.code.length E):=m.cell (a:=⟨b,o+k*7+5,none⟩) (q 5 _ rfl) id;have aF:wr.cell? ⟨b,o+k*7+6,none⟩=some (.slice C x.cats.length H):=m.cell (a:=⟨b,o+k*7+6,none⟩) (q 6 _ rfl) id;clear q ae;have ax:=Hd Q;have L:=Zap Mth.many c.mths k x Q;rw[ak.o,YaV]at L;have j:=Hd L;clear Q V m L;have am:(0:Int)<=k:=by omega
   have ar:(k:Int)<(n:Int):=by omega
   by_cases f:32<x.params.length
   ·have J:32<(x.params.length:Int):=by omega
    have d:x.many=true:=by unfold Mth.many;simp[f]
    rw[d]at j;have t:R=true:=by rw[i.o,Zft j.o];simp
    subst t;have h:=Hd (g.o.trans ((Zaa p.o _).mono g.o.size):Below w.heap.size w (wr.alloc (.cells #[.string (S x.name),.slice G x.params.length D,.string (S x.res),.bool x.abs,.int .i64 x.loc,.slice K x.code.length E,.slice C x.cats.length H] 26)));clear d f;go_wp2;go_ret;exact⟨Zai (rfl),h.o⟩
   ·have J:¬(32<(x.params.length:Int)):=by omega
    by_cases l:32<x.cats.length
    ·have I:32<(x.cats.length:Int):=by omega
     have d:x.many=true:=by unfold Mth.many;simp[f,l]
     rw[d]at j;have t:R=true:=by rw[i.o,Zft j.o];simp
     subst t;have h:=Hd (g.o.trans ((Zaa p.o _).mono g.o.size):Below w.heap.size w (wr.alloc (.cells #[.string (S x.name),.slice G x.params.length D,.string (S x.res),.bool x.abs,.int .i64 x.loc,.slice K x.code.length E,.slice C x.cats.length H] 26)));clear d f l;go_wp2;go_ret;exact⟨Zai (rfl),h.o⟩
    ·have I:¬(32<(x.cats.length:Int)):=by omega
     by_cases s:200<x.code.length
     ·have M:200<(x.code.length:Int):=by omega
      have d:x.many=true:=by unfold Mth.many;simp[f,l,s]
      rw[d]at j;have t:R=true:=by rw[i.o,Zft j.o];simp
      subst t;have h:=Hd (g.o.trans ((Zaa p.o _).mono g.o.size):Below w.heap.size w (wr.alloc (.cells #[.string (S x.name),.slice G x.params.length D,.string (S x.res),.bool x.abs,.int .i64 x.loc,.slice K x.code.length E,.slice C x.cats.length H] 26)));clear d f l s;go_wp2;go_ret;exact⟨Zai (rfl),h.o⟩
     ·have M:¬(200<(x.code.length:Int)):=by omega
      by_cases O:64<x.loc
      ·have aj:64<x.loc:=by omega
       have d:x.many=true:=by unfold Mth.many;simp[f,l,s,O]
       rw[d]at j;have t:R=true:=by rw[i.o,Zft j.o];simp
       subst t;have h:=Hd (g.o.trans ((Zaa p.o _).mono g.o.size):Below w.heap.size w (wr.alloc (.cells #[.string (S x.name),.slice G x.params.length D,.string (S x.res),.bool x.abs,.int .i64 x.loc,.slice K x.code.length E,.slice C x.cats.length H] 26)));clear d f l s O;go_wp2;go_ret;exact⟨Zai (rfl),h.o⟩
      ·have aj:¬(64<x.loc):=by omega
       have d:x.many=false:=by unfold Mth.many;simp[f,l,s,O]
       rw[d]at j;clear d f l s O;go_wp2;go_roundw
       case rel=>exact⟨k+1,by omega,by go_num,j.o,Zaa p.o _⟩
       case measure=>simp[intOf];omega
  ·obtain rfl:k=n:=by omega
   have T:c.mths.any Mth.many=false:=by
    have aq:=ak.o;rw[af.o,Yaz (Yad _)]at aq;exact aq
   rw[T,Bool.or_false]at i;have W:Below w.heap.size w wr:=g.o.trans (p.o.mono g.o.size);have h:=Hd W;have aI:=(u.o.below p.o).cell 2 rfl;have aJ:=(u.o.below p.o).cell 6 rfl;clear T W;by_cases f:32<c.like.length
   ·have J:32<(c.like.length:Int):=by omega
    obtain rfl:R=true:=by rw[i.o];simp[f]
    clear f;go_wp2;go_ret;exact⟨Zai (rfl),h.o⟩
   ·have J:¬(32<(c.like.length:Int)):=by omega
    by_cases l:32<c.flds.length
    ·have I:32<(c.flds.length:Int):=by omega
     obtain rfl:R=true:=by rw[i.o];simp[f,l]
     clear f l;go_wp2;go_ret;exact⟨Zai (rfl),h.o⟩
    ·have I:¬(32<(c.flds.length:Int)):=by omega
     by_cases s:32<k
     ·have M:32<(k:Int):=by omega
      obtain rfl:R=true:=by rw[i.o];simp[f,l,s]
      clear f l s;go_wp2;go_ret;exact⟨Zai (rfl),h.o⟩
     ·have M:¬(32<(k:Int)):=by omega
      obtain rfl:R=false:=by rw[i.o];simp[f,l,s]
      clear f l s;go_wp2;go_ret;exact⟨Zai (rfl),h.o⟩
abbrev entV (B:Nat->Nat)(i:Nat):Value:=.pointer (some ⟨B i,0,none⟩)
abbrev EntP (B:Nat->Nat):Zao Nat:=Flat (entV B)
theorem EntP.st (B:Nat->Nat):Stays (EntP B):=Flat.stays _
def YesNo (a c:World->Prop)(e:Ending)(w':World):Prop:=∃b,e=.returned (.bool b)/\(b=true->a w')/\(b=false->c w')
theorem YesNo.mono {l k a c:World->Prop}{e:Ending}{w':World}(m:YesNo l k e w')(h:∀w,l w->a w)(j:∀w,k w->c w):YesNo a c e w':=by
 obtain⟨b,g,d,i⟩:=m;exact⟨b,g,fun f=>h _ (d f),fun f=>j _ (i f)⟩
theorem YesNo.mono' {l k a c:World->Prop}{e:Ending}{w':World}(m:YesNo l k e w')(h:l w'->a w')(j:k w'->c w'):YesNo a c e w':=by
 obtain⟨b,g,d,i⟩:=m;exact⟨b,g,fun f=>h (d f),fun f=>j (i f)⟩
def Zjy (B:Nat->Nat)(d:Nat)(a:Array Value)(l:List Nat)(b c:Nat->World->Prop):Prop:=
 ∀(k x:Nat) (w:World),l[k]?=some x->b k w->Calls prog d (#[entV B x]++a) w (YesNo (c k) (b (k+1)))
def ZrI (n:Nat)(b a:Nat->World->Prop)(e:Ending)(w':World):Prop:=∃z:Int,e=.returned (.int .i64 z)/\((0<=z/\∃k,k<n/\z=(k:Int)/\a k w')\/(z<0/\b n w'))
theorem ZlR {B:Nat->Nat}{A:Nat->Prop}(I:Nat)(c:Array Value)(l:List Nat)(E:Option Addr)(z:Nat)(D T:Nat->World->Prop)(w:World)(f:∀args w,(callFunc I args).run prog w=.ok (.enter I args) w)
  (g:∀k w',D k w'->Src 1 (EntP B) A w' (.slice E l.length z) l)(u:D 0 w)(H:Zjy B I c l D T)(s:l.length<=9223372036854775807) :
  Calls prog 202 #[.slice E l.length z,.func (.func I) #[] c] w (ZrI l.length D T):=by
 have O:=Hd H;have L:=Hd f;have C:=Hd g;have K:=Hd u;obtain⟨n,d⟩:∃n,n=l.length:=⟨_,rfl⟩
 rw[←d]at s⊢;simp only[←d]at C;have J:=Hd d;clear H f g u d;go_enter func202,ntmps202;go_wp2
 go_loopw [8] (fun t wr=>∃k:Nat,k<=n/\t=.int .i64 k/\D k wr) (fun t _=>n-(intOf t).toNat)
 case atStart=>exact⟨0,Yao _,rfl,K.o⟩
 case round=>
  obtain⟨k,X,rfl,G⟩:=hrel;have m:=Hd G;clear G;by_cases F:k<n
  ·have i:k<l.length:=by have:=J.o;omega
   obtain⟨x,r⟩:∃x,l[k]?=some x:=⟨_,Yaa i⟩
   obtain⟨b,o,v,rfl,N,_,j⟩:=Src.elem (C.o k wr m.o) k x r;obtain rfl:=N;have P:wr.cell? ⟨b,o+k,none⟩=some (entV B x):=by have V:=j 0 _ rfl;rw[YaH]at V;exact V
   clear j;have M:=Hd r;clear r i;have R:(0:Int)<=k:=by omega
   have U:(k:Int)<(n:Int):=by omega
   have f:=L.o;go_wp2_with fail;refine(O.o k x wr M.o m.o).mono ?_;rintro e W⟨Q,rfl,y,h⟩;have p:=Hd y;have a:=Hd h;clear f P y h;cases Q with
   |true=>
    have q:=Hd (p.o rfl);clear p a;go_wp2;go_ret;exact⟨k,rfl,Or.inl ⟨by omega,k,F,rfl,q.o⟩⟩
   |false=>
    have q:=Hd (a.o rfl);clear p a;go_wp2;go_roundw
    case rel=>exact⟨k+1,by omega,by go_num,q.o⟩
    case measure=>simp[intOf];omega
  ·obtain rfl:n=k:=by omega
   go_wp2;go_ret;exact⟨-1,rfl,Or.inr ⟨by decide,m.o⟩⟩
theorem ZfK {B:Nat->Nat}{A:Nat->Prop}(m:Nat)(a:Array Value)(l:List Nat)(sv:Value)(i t:Nat->World->Prop)(w:World)(q:∀args w,(callFunc m args).run prog w=.ok (.enter m args) w)
  (b:∀k w',i k w'->Src 1 (EntP B) A w' sv l)(d:i 0 w)(s:Zjy B m a l i t)(c:l.length<=9223372036854775807) :
  Calls prog 141 #[sv,.func (.func m) #[] a] w (YesNo (fun w'=>∃k,k<l.length/\t k w') (i l.length)):=by
 obtain⟨y,v,rfl⟩:=(b 0 w d).shape;have r:=Hd (ZlR m a l y v i t w q b d s c);generalize l.length=n at r⊢;clear q b d s c;go_enter func141,ntmps141
 go_wp2_with fail;refine r.o.mono ?_;rintro e p⟨z,rfl,j⟩;have f:=Hd j;rcases j with⟨u,_⟩|⟨u,_⟩
 ·have h:Hid (∃k,k<n/\t k p):=Hd (by
   rcases f.o with⟨_,k,x,_,g⟩|⟨C,_⟩
   ·exact⟨k,x,g⟩
   ·omega)
  clear f;go_wp2;go_ret;exact⟨true,rfl,fun _=>h.o,(fun g=>by cases g)⟩
 ·have h:Hid (i n p):=Hd (by
   rcases f.o with⟨C,_⟩|⟨_,g⟩
   ·omega
   ·exact g)
  have d:decide (0<=z)=false:=by rw[decide_eq_false_iff_not];omega
  clear f;go_wp2;go_ret;exact⟨false,rfl,(fun g=>by cases g),fun _=>h.o⟩
structure Ent where
 cls:Cls
 up:Option Nat
 lk:List Nat
def ptrV (B:Nat->Nat)(o:Option Nat):Value:=.pointer (o.map fun a=>⟨B a,0,none⟩)
theorem Zc0 (B:Nat->Nat)(o:Option Nat):∃a,ptrV B o=.pointer a:=⟨_,rfl⟩
theorem Zbv (B:Nat->Nat)(a:Nat):ptrV B (some a)=.pointer (some ⟨B a,0,none⟩):=rfl
theorem Zdx (B:Nat->Nat):ptrV B none=.pointer none:=rfl
def Zad (es:List Ent)(n:List UInt8):Option Nat:=es.findIdx? (fun e=>e.cls.name==n)
def Zfp (es:List Ent):Lit->Option Nat
 |.string n=>Zad es n
 |_=>none
def entC (B:Nat->Nat)(i:Nat)(e:Ent)(c b a sv:Value):Array Value:=
 #[.int .i64 i,.string (S e.cls.name),.string (S e.cls.sup),c,.bool e.cls.itf,.bool e.cls.abs,.bool e.cls.fin,b,a,ptrV B e.up,sv]
def EntIs (A:Nat->Prop)(B:Nat->Nat)(w:World)(i:Nat)(e:Ent):Prop:=
 ∃c b a sv,Box w (B i) (entC B i e c b a sv) 80/\Src 1 StrR A w c e.cls.like/\Src 3 FldR A w b e.cls.flds/\Src 7 MthR A w a e.cls.mths/\Src 1 (EntP B) A w sv e.lk
theorem EntIs.keep {A S:Nat->Prop}{B:Nat->Nat}{w w':World}{i:Nat}{e:Ent}(p:EntIs A B w i e)(a:Only S w w')(b:∀k,A k->¬S k)(d:¬S (B i)):EntIs A B w' i e:=by
 obtain⟨h,j,n,sv,f,c,l,g,m⟩:=p;exact⟨h,j,n,sv,f.keep a d,StrR.st.src c a b,FldR.st.src l a b,MthR.st.src g a b,(EntP.st B).src m a b⟩
structure Tab (A:Nat->Prop) (w:World) (T mb:Nat) (B:Nat->Nat) (es:List Ent):Prop where
 box:Box w T #[.map (some mb)] 64
 map:MapF prog 9 (.pointer none) w mb es.length (fun k=>ptrV B (Zfp es k)) (fun k=>(Zfp es k).isSome)
 ent:∀i e,es[i]?=some e->EntIs A B w i e
 inj:∀i j,i<es.length->j<es.length->B i=B j->i=j
 offA:∀i,i<es.length->¬A (B i)
 offT:∀i,i<es.length->B i≠T
 offM:∀i,i<es.length->B i≠mb
 T_A:¬A T
 M_A:¬A mb
 T_M:T≠mb
theorem Tab.keep {A S:Nat->Prop}{w w':World}{h d:Nat}{B:Nat->Nat}{es:List Ent}(b:Tab A w h d B es)(g:Only S w w')(f:∀k,k<w.heap.size->¬S k):Tab A w' h d B es:=by
 have a:Only (fun _=>False) w w':=g.mono (fun i c s=>f i c s);exact⟨b.box.keep a id,b.map.keep a id,fun i e c=>(b.ent i e c).keep a (fun _ _=>id) id,b.inj,b.offA,b.offT,b.offM,b.T_A,b.M_A,b.T_M⟩
theorem Tab.below {A:Nat->Prop}{w w':World}{c a:Nat}{B:Nat->Nat}{es:List Ent}(d:Tab A w c a B es)(b:Below w.heap.size w w'):Tab A w' c a B es:=
 d.keep (Yae (S:=fun _=>False) b) (fun _ _=>id)
theorem Tab.lt {A:Nat->Prop}{w:World}{d b:Nat}{B:Nat->Nat}{es:List Ent}(f:Tab A w d b B es){i:Nat}(c:i<es.length):B i<w.heap.size:=by
 obtain⟨_,_,_,_,a,_⟩:=f.ent i es[i] (Yaa c);exact a.lt
theorem ZcT (n:List UInt8)(a:n.length<=9223372036854775807):keyOf prog 9 (.string (S n))=some (.string n):=by
 have b:=Go.WideMaps.keyOf_string_mk (P:=prog) (k:=9) (s:=S n) underlying9 (by rw[Zat];unfold maxLen;exact a);rw[b];exact Ya8 (fun x=>some (Lit.string x)) rfl
theorem Zbb:Maps.Keyed prog 9:=Maps.string_keyed underlying9
theorem Zlk (w:World):(zeroValue 77).run prog w=.ok (.pointer none) w:=by kernel_rfl
theorem Tab.look {A:Nat->Prop}{w:World}{c a:Nat}{B:Nat->Nat}{es:List Ent}(d:Tab A w c a B es)(n:List UInt8)(b:n.length<=9223372036854775807) :
  (Instr.lookup 62 (.map (some a)) (.string (S n)) false).run prog w=.ok (ptrV B (Zad es n)) w:=
 d.map.look Zbb underlying62 (Zlk w) (ZcT n b)
def ZdA (es:List Ent):List Nat->Option Nat->Prop
 |[],o=>o=none
 |i::l,o=>o=some i/\∃e,es[i]?=some e/\ZdA es l e.up
theorem Zir {α:Type}{l d:List α}{k:Nat}{x:α}(c:l.drop k=x::d):l[k]?=some x/\l.drop (k+1)=d/\k<l.length:=by
 have b:k<l.length:=by
  rcases YaC k l.length with a|a
  ·exact a
  ·rw[Ycr a]at c;cases c
 rw[YbJ b]at c;injection c with h1 h2
 exact⟨by rw[Yaa b,h1],h2,b⟩
theorem Zfu {A:Nat->Prop}{B:Nat->Nat}{ac V:Nat}{es:List Ent}{v:World}(C:Tab A v ac V B es)(N:Nat)(h:Array Value)(L:List Nat)(o:Option Nat)(F ab:Nat->World->Prop)(w:World)(l:∀args w,(callFunc N args).run prog w=.ok (.enter N args) w)
  (c:ZdA es L o)(z:∀k w',F k w'->Below v.heap.size v w')(y:F 0 w)(J:Zjy B N h L F ab) :
  Calls prog 143 #[ptrV B o,.func (.func N) #[] h] w (YesNo (fun w'=>∃k,k<L.length/\ab k w') (F L.length)):=by
 have W:=Hd J;have P:=Hd l;have U:=Hd C;have Q:=Hd z;have O:=Hd y;have aa:=Hd c;clear J l C z y c;generalize q:ptrV B o=al;have Y:=Hd q;clear q;go_enter func143,ntmps143;go_wp2
 go_loopg [0] (L.length+1) (fun gk Z wr=>∃(k:Nat) (o:Option Nat),Z=ptrV B o/\ZdA es (L.drop k) o/\F k wr/\k<=L.length/\L.length-k<gk)
 case atStart=>exact⟨0,o,Y.o.symm,aa.o,O.o,Yao _,by omega⟩
 case round=>
  obtain⟨k,o,j,c,M,aj,ag⟩:=hrel;have n:=Hd M;clear M;cases d:L.drop k with
  |nil=>
   rw[d]at c;have t:o=none:=c;subst t;have g:u0=.pointer none:=j;clear j c;subst g;have a:L.length=k:=by
    have:=Ya8 List.length d;simp at this;omega
   have H:=Hd a;clear d a;go_wp2;go_ret;exact⟨false,rfl,(fun X=>by cases X),fun _=>by rw[H.o];exact n.o⟩
  |cons i am=>
   rw[d]at c;obtain⟨t,e,r,p⟩:=c;obtain⟨I,G,a⟩:=Zir d;subst t;have g:u0=.pointer (some ⟨B i,0,none⟩):=j;subst g;have T:=Hd I;have R:=Hd G;have K:=Hd r;have E:=Hd p;clear j I G r p d;have l:=P.o;go_wp2_with fail;refine(W.o k i wr T.o n.o).mono ?_;rintro ad af⟨b,rfl,D,s⟩;have u:=Hd D;have f:=Hd s;clear l D s;cases b with
   |true=>
    have m:=Hd (u.o rfl);clear u f;go_wp2;go_ret;exact⟨true,rfl,fun _=>⟨k,a,m.o⟩,(fun X=>by cases X)⟩
   |false=>
    have m:=Hd (f.o rfl);clear u f;obtain⟨ai,ah,ae,sv,x,_⟩:=(U.o.below (Q.o _ _ m.o)).ent i e K.o;have ak:=x.cell 9 rfl;clear x;go_wp2;go_roundg (L.length-k)
    case measure=>omega
    case rel=>exact⟨k+1,e.up,rfl,by rw[R.o];exact E.o,m.o,a,by omega⟩
