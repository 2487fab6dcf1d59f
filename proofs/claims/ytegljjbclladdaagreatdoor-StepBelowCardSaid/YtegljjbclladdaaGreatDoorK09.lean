/- laws -/
import Derived.Test.YtegljjbclladdaaGreatDoorK08
set_option maxRecDepth 100000
set_option maxHeartbeats 16000000
namespace Go.Proofs.YtegljjbclladdaaGreatDoor
open Go.RowKit Tryz
theorem ZnU {A:Nat->Prop}(y:Nat)(j:Array Value)(p:Mth->List UInt8)(x b:Mth)(C B:Value)(z m:Nat)(w:World)(aa:∀args w,(callFunc y args).run prog w=.ok (.enter y args) w)
  (F:MthR A w x C)(E:MthR A w b B)(V:w.cell? ⟨z,0,none⟩=some (.func (.func y) #[] j))(q:∀af u,C.cells[af]?=some u->w.cell? ⟨m,af,none⟩=some u)(P:Zlm MthR A y j p w) :
  Calls prog 189 #[B,.pointer (some ⟨z,0,none⟩),.pointer (some ⟨m,0,none⟩)] w (Said (p b==p x) w):=by
 have v:Hid (∀W,Below w.heap.size w W->Calls prog y (#[C]++j) W fun e w'=>e=.returned (.string (S (p x)))/\Below W.heap.size W w'):=Hd (fun W l=>(P x C W l (MthR.st.keep F (Yae (S:=fun _=>False) l) (fun _ _=>id))));have t:Hid (∀W,Below w.heap.size w W->Calls prog y (#[B]++j) W fun e w'=>e=.returned (.string (S (p b)))/\Below W.heap.size W w'):=Hd (fun W l=>(P b B W l (MthR.st.keep E (Yae (S:=fun _=>False) l) (fun _ _=>id))));clear P;obtain⟨_,_,_,rfl,⟨M,J,rfl⟩,⟨N,K,rfl⟩,⟨I,L,rfl⟩⟩:=Zaj F;obtain⟨_,_,_,rfl,⟨f,h,rfl⟩,⟨d,i,rfl⟩,⟨c,g,rfl⟩⟩:=Zaj E;have X:=Zaf (p x);have Z:=Zaf (p b);generalize p x=ac at v X⊢;generalize p b=ab at t Z⊢;have D:Below w.heap.size w (w.alloc (.cells #[.string (S b.name),.slice f b.params.length h,.string (S b.res),.bool b.abs,.int .i64 b.loc,.slice d b.code.length i,.slice c b.cats.length g] 26)):=(Yab _ w).alloc (Yad _) _;have k:=Hd D;have R:Hid (∀W,Below (w.alloc (.cells #[.string (S b.name),.slice f b.params.length h,.string (S b.res),.bool b.abs,.int .i64 b.loc,.slice d b.code.length i,.slice c b.cats.length g] 26)).heap.size (w.alloc (.cells #[.string (S b.name),.slice f b.params.length h,.string (S b.res),.bool b.abs,.int .i64 b.loc,.slice d b.code.length i,.slice c b.cats.length g] 26)) W->Calls prog y (#[.agg #[.string (S x.name),.slice M x.params.length J,.string (S x.res),.bool x.abs,.int .i64 x.loc,.slice N x.code.length K,.slice I x.cats.length L]]++j) W fun e w'=>e=.returned (.string (S ac))/\Below (w.alloc (.cells #[.string (S b.name),.slice f b.params.length h,.string (S b.res),.bool b.abs,.int .i64 b.loc,.slice d b.code.length i,.slice c b.cats.length g] 26)).heap.size (w.alloc (.cells #[.string (S b.name),.slice f b.params.length h,.string (S b.res),.bool b.abs,.int .i64 b.loc,.slice d b.code.length i,.slice c b.cats.length g] 26)) w'):=Hd (fun W l=>(v.o W (k.o.trans (l.mono k.o.size))).mono (fun _ _ T=>⟨T.1,l.trans (T.2.mono l.size)⟩));have U:Hid (∀W,Below (w.alloc (.cells #[.string (S b.name),.slice f b.params.length h,.string (S b.res),.bool b.abs,.int .i64 b.loc,.slice d b.code.length i,.slice c b.cats.length g] 26)).heap.size (w.alloc (.cells #[.string (S b.name),.slice f b.params.length h,.string (S b.res),.bool b.abs,.int .i64 b.loc,.slice d b.code.length i,.slice c b.cats.length g] 26)) W->Calls prog y (#[.agg #[.string (S b.name),.slice f b.params.length h,.string (S b.res),.bool b.abs,.int .i64 b.loc,.slice d b.code.length i,.slice c b.cats.length g]]++j) W fun e w'=>e=.returned (.string (S ab))/\Below (w.alloc (.cells #[.string (S b.name),.slice f b.params.length h,.string (S b.res),.bool b.abs,.int .i64 b.loc,.slice d b.code.length i,.slice c b.cats.length g] 26)).heap.size (w.alloc (.cells #[.string (S b.name),.slice f b.params.length h,.string (S b.res),.bool b.abs,.int .i64 b.loc,.slice d b.code.length i,.slice c b.cats.length g] 26)) w'):=Hd (fun W l=>(t.o W (k.o.trans (l.mono k.o.size))).mono (fun _ _ T=>⟨T.1,l.trans (T.2.mono l.size)⟩));have s:Hid (∀W,Below (w.alloc (.cells #[.string (S b.name),.slice f b.params.length h,.string (S b.res),.bool b.abs,.int .i64 b.loc,.slice d b.code.length i,.slice c b.cats.length g] 26)).heap.size (w.alloc (.cells #[.string (S b.name),.slice f b.params.length h,.string (S b.res),.bool b.abs,.int .i64 b.loc,.slice d b.code.length i,.slice c b.cats.length g] 26)) W->(fun W=>W.cell? ⟨z,0,none⟩=some (.func (.func y) #[] j)/\W.cell? ⟨m,0,none⟩=some (.string (S x.name))/\W.cell? ⟨m,1,none⟩=some (.slice M x.params.length J)/\W.cell? ⟨m,2,none⟩=some (.string (S x.res))/\W.cell? ⟨m,3,none⟩=some (.bool x.abs)/\W.cell? ⟨m,4,none⟩=some (.int .i64 x.loc)/\W.cell? ⟨m,5,none⟩=some (.slice N x.code.length K)/\W.cell? ⟨m,6,none⟩=some (.slice I x.cats.length L)/\W.cell? ⟨w.heap.size,0,none⟩=some (.string (S b.name))/\W.cell? ⟨w.heap.size,1,none⟩=some (.slice f b.params.length h)/\W.cell? ⟨w.heap.size,2,none⟩=some (.string (S b.res))/\W.cell? ⟨w.heap.size,3,none⟩=some (.bool b.abs)/\W.cell? ⟨w.heap.size,4,none⟩=some (.int .i64 b.loc)/\W.cell? ⟨w.heap.size,5,none⟩=some (.slice d b.code.length i)/\W.cell? ⟨w.heap.size,6,none⟩=some (.slice c b.cats.length g)) W):=Hd (fun W l=>by
  have n:=Yae (S:=fun _=>False) l;have r:=Yae (S:=fun _=>False) (k.o.trans (l.mono k.o.size));exact⟨r.cell V id,r.cell (q 0 _ rfl) id,r.cell (q 1 _ rfl) id,r.cell (q 2 _ rfl) id,r.cell (q 3 _ rfl) id,r.cell (q 4 _ rfl) id,r.cell (q 5 _ rfl) id,r.cell (q 6 _ rfl) id,n.cell (a:=⟨w.heap.size,0,none⟩) (by simp) id,n.cell (a:=⟨w.heap.size,1,none⟩) (by simp) id,n.cell (a:=⟨w.heap.size,2,none⟩) (by simp) id,n.cell (a:=⟨w.heap.size,3,none⟩) (by simp) id,n.cell (a:=⟨w.heap.size,4,none⟩) (by simp) id,n.cell (a:=⟨w.heap.size,5,none⟩) (by simp) id,n.cell (a:=⟨w.heap.size,6,none⟩) (by simp) id⟩)
 clear V q D v t;go_enter func189,ntmps189
 go_upto_region 1 with fail;generalize (w.alloc (.cells #[.string (S b.name),.slice f b.params.length h,.string (S b.res),.bool b.abs,.int .i64 b.loc,.slice d b.code.length i,.slice c b.cats.length g] 26))=Y at R U s k⊢;generalize w.heap.size=O at s⊢;have Q:=s.o _ (Yab _ Y);obtain⟨au,av,aw,aq,al,ao,aj,ar,ap,ak,ad,ah,ai,ae,ag⟩:=Q;first
 |(go_region_held (fun W=>W.cell? ⟨z,0,none⟩=some (.func (.func y) #[] j)/\W.cell? ⟨m,0,none⟩=some (.string (S x.name))/\W.cell? ⟨m,1,none⟩=some (.slice M x.params.length J)/\W.cell? ⟨m,2,none⟩=some (.string (S x.res))/\W.cell? ⟨m,3,none⟩=some (.bool x.abs)/\W.cell? ⟨m,4,none⟩=some (.int .i64 x.loc)/\W.cell? ⟨m,5,none⟩=some (.slice N x.code.length K)/\W.cell? ⟨m,6,none⟩=some (.slice I x.cats.length L)/\W.cell? ⟨O,0,none⟩=some (.string (S b.name))/\W.cell? ⟨O,1,none⟩=some (.slice f b.params.length h)/\W.cell? ⟨O,2,none⟩=some (.string (S b.res))/\W.cell? ⟨O,3,none⟩=some (.bool b.abs)/\W.cell? ⟨O,4,none⟩=some (.int .i64 b.loc)/\W.cell? ⟨O,5,none⟩=some (.slice d b.code.length i)/\W.cell? ⟨O,6,none⟩=some (.slice c b.cats.length g)) (first|with_reducible exact s.o _ G|with_reducible exact s.o _ H|with_reducible exact s.o _ ((Yab _ _).drew))
   (first|(with_reducible refine(U.o _ (by first|exact G|exact(Yab _ _).drew)).mono ?_;rintro e wA⟨rfl,H⟩)|(with_reducible refine(R.o _ (by first|exact H|exact(Yab _ _).drew)).mono ?_;rintro e am⟨rfl,G⟩)))
 |fail
 all_goals
  clear aa;go_wp2;go_ret;first|exact⟨rfl,k.o.trans (G.mono k.o.size)⟩|exact⟨rfl,k.o.trans (H.mono k.o.size)⟩
theorem Zqq {A:Nat->Prop}(M:Nat)(c:Array Value)(g:Mth->List UInt8)(l:List (Mth))(sv:Value)(w:World)(ao:∀args w,(callFunc M args).run prog w=.ok (.enter M args) w)
  (am:Src 7 MthR A w sv l)(aq:Zlm MthR A M c g w)(aj:l.length<=1048576) :
  Calls prog 126 #[sv,.func (.func M) #[] c] w (Said (ZbM (l.map g)) w):=by
 have aY:=Ymf;have aN:=Hd ao;have au:=Hd aq;have ah:=Hd am;clear ao aq;rcases am with⟨a3,aS,rfl,rfl⟩|⟨b,o,P,rfl,X,aw⟩
 ·go_enter func126,ntmps126;go_wp2
  go_loopw [9] (fun Q wr=>Q=.int .i64 0/\wr=w.alloc (.cells #[.func (.func M) #[] c] 110)) (fun _ _=>0)
  case atStart=>exact⟨rfl,rfl⟩
  case round=>
   obtain⟨rfl,rfl⟩:=hrel;go_wp2;go_ret;exact⟨rfl,(Yab _ w).alloc (Yad _) _⟩
 ·have ap:=Hd aw;have aP:=Hd X;obtain⟨n,U⟩:∃n,n=l.length:=⟨_,rfl⟩
  have aB:n<=P:=by rw[U];exact X.2.2.1
  have az:P<=9223372036854775807:=X.2.2.2;rw[←U]at aj ah⊢;have T:=Hd U;clear aw U X;obtain⟨aA,ai⟩:∃aA,aA=ZbM (l.map g):=⟨_,rfl⟩
  rw[←ai];have ay:=Hd ai;clear ai;go_enter func126,ntmps126;go_wp2;have N:Box (w.alloc (.cells #[.func (.func M) #[] c] 110)) w.heap.size #[.func (.func M) #[] c] 110:=Box.new w _ _;have H:Below w.heap.size w (w.alloc (.cells #[.func (.func M) #[] c] 110)):=(Yab _ w).alloc (Yad _) _;generalize w.alloc (.cells #[.func (.func M) #[] c] 110)=Y at N H⊢;have ac:=Hd N;have s:=Hd H;clear N H;obtain⟨Z,I⟩:∃Z,Z=w.heap.size:=⟨_,rfl⟩
  rw[←I]at ac⊢;have aT:=Hd I;clear I;go_loopw [9] (fun Q wr=>∃k:Nat,k<=n/\Q=.int .i64 k/\ZbG (l.map g) k=true/\Below Y.heap.size Y wr) (fun Q _=>n-(intOf Q).toNat)
  case atStart=>exact⟨0,Yao _,rfl,ZdG _,Yab _ _⟩
  case round=>
   obtain⟨k,a2,rfl,O,L⟩:=hrel;have av:=Hd O;have m:=Hd L;have q:Below w.heap.size w wr:=s.o.trans (L.mono s.o.size);have R:=Hd q;clear O L q;by_cases aU:k<n
   ·have ag:k<l.length:=by have:=T.o;omega
    obtain⟨x,aa⟩:∃x,l[k]?=some x:=⟨_,Yaa ag⟩
    have d:=Yae (S:=fun _=>False) R.o;obtain⟨v,al,ax,f⟩:=ap.o k x aa;have aG:=Hd (MthR.st.keep al d (fun _ _=>id));obtain⟨_,_,_,rfl,⟨C,D,rfl⟩,⟨F,E,rfl⟩,⟨B,G,rfl⟩⟩:=Zaj al;have aO:wr.cell? ⟨b,o+k*7,none⟩=some (.string (S x.name)):=d.cell (a:=⟨b,o+k*7,none⟩) (f 0 _ rfl) id;have aH:wr.cell? ⟨b,o+k*7+1,none⟩=some (.slice C x.params.length D):=d.cell (a:=⟨b,o+k*7+1,none⟩) (f 1 _ rfl) id;have aD:wr.cell? ⟨b,o+k*7+2,none⟩=some (.string (S x.res)):=d.cell (a:=⟨b,o+k*7+2,none⟩) (f 2 _ rfl) id;have aK:wr.cell? ⟨b,o+k*7+3,none⟩=some (.bool x.abs):=d.cell (a:=⟨b,o+k*7+3,none⟩) (f 3 _ rfl) id;have aQ:wr.cell? ⟨b,o+k*7+4,none⟩=some (.int .i64 x.loc):=d.cell (a:=⟨b,o+k*7+4,none⟩) (f 4 _ rfl) id;have aI:wr.cell? ⟨b,o+k*7+5,none⟩=some (.slice F x.code.length E):=d.cell (a:=⟨b,o+k*7+5,none⟩) (f 5 _ rfl) id;have aE:wr.cell? ⟨b,o+k*7+6,none⟩=some (.slice B x.cats.length G):=d.cell (a:=⟨b,o+k*7+6,none⟩) (f 6 _ rfl) id;clear f ax;have a1:=Hd aa;have af:=Zfv g l k x aa;have J:=ZdF (l.map g) k;rw[av.o,YaG,af]at J;have t:=Hd J;clear aa ag d af J;have aX:(0:Int)<=k:=by omega
    have aV:(k:Int)<(n:Int):=by omega
    have aW:(k:Int)<=(P:Int):=by omega
    go_wp2_with fail;have h:Below wr.heap.size wr (wr.alloc (.cells #[.string (S x.name),.slice C x.params.length D,.string (S x.res),.bool x.abs,.int .i64 x.loc,.slice F x.code.length E,.slice B x.cats.length G] 26)):=(Yab _ wr).alloc (Yad _) _;have ad:Box (wr.alloc (.cells #[.string (S x.name),.slice C x.params.length D,.string (S x.res),.bool x.abs,.int .i64 x.loc,.slice F x.code.length E,.slice B x.cats.length G] 26)) wr.heap.size #[.string (S x.name),.slice C x.params.length D,.string (S x.res),.bool x.abs,.int .i64 x.loc,.slice F x.code.length E,.slice B x.cats.length G] 26:=Box.new wr _ _;have j:Below w.heap.size w (wr.alloc (.cells #[.string (S x.name),.slice C x.params.length D,.string (S x.res),.bool x.abs,.int .i64 x.loc,.slice F x.code.length E,.slice B x.cats.length G] 26)):=R.o.trans (h.mono R.o.size);have K:Box (wr.alloc (.cells #[.string (S x.name),.slice C x.params.length D,.string (S x.res),.bool x.abs,.int .i64 x.loc,.slice F x.code.length E,.slice B x.cats.length G] 26)) Z #[.func (.func M) #[] c] 110:=(ac.o.below m.o).below h;have ab:=MthR.st.below (Src.head aP.o ap.o k (by have:=T.o;omega)) j;refine(Zdn (A:=A) 189 _ (fun ar=>g ar==g x) (l.take k) _ _ (Zac func189 (by kernel_rfl) rfl) ab (fun i ar aF w' a0 y ak=>?_) (by rw[YaA];omega)).mono ?_
    ·have p:Below w.heap.size w w':=j.trans (y.mono j.size);exact ZnU M c g x ar _ aF Z wr.heap.size w' aN.o (MthR.st.keep aG.o (Yae (S:=fun _=>False) (h.trans (y.mono h.size))) (fun _ _=>id)) ak ((K.below y).cell 0 rfl) (fun aZ u aJ=>(ad.below y).cell aZ aJ)
      (fun z aR W aL aM=>au.o z aR W (p.trans (aL.mono p.size)) aM)
    ·rintro e aC⟨rfl,q⟩;have p:Below Y.heap.size Y aC:=(m.o.trans (h.mono m.o.size)).trans (q.mono (m.o.trans (h.mono m.o.size)).size);have ae:=Hd p;clear q p h ad j K ab aO aH aD aK aQ aI aE;cases V:((l.take k).any fun ar=>g ar==g x)with
     |true=>
      rw[V]at t;have r:aA=false:=by
       rw[ay.o];unfold ZbM;exact ZfN _ (k+1) _ (by rw[YaB];have:=T.o;omega) t.o
      subst r;clear V;go_wp2;go_ret;exact⟨rfl,s.o.trans (ae.o.mono s.o.size)⟩
     |false=>
      rw[V]at t;clear V;go_wp2;go_roundw
      case rel=>exact⟨k+1,by omega,by go_num,t.o,ae.o⟩
      case measure=>simp[intOf];omega
   ·obtain rfl:k=n:=by omega
    have r:aA=true:=by
     rw[ay.o];unfold ZbM;rw[YaB,←T.o];exact av.o
    subst r;go_wp2;go_ret;exact⟨rfl,R.o⟩
def Zaw (s:List UInt8):Prop:=s.length<=9223372036854775807
structure Mth.Fit (m:Mth):Prop where
 name:Zaw m.name
 res:Zaw m.res
 params:∀x∈m.params,Zaw x
 code:∀x∈m.code,Zaw x.s
 cats:∀x∈m.cats,Zaw x.cls
 n1:m.params.length<=9223372036854775807
 n2:m.code.length<=9223372036854775807
 n3:m.cats.length<=9223372036854775807
structure Cls.Fit (c:Cls):Prop where
 name:Zaw c.name
 sup:Zaw c.sup
 like:∀x∈c.like,Zaw x
 flds:∀f∈c.flds,Zaw f.name/\Zaw f.kind
 mths:∀m∈c.mths,m.Fit
 n1:c.like.length<=9223372036854775807
 n2:c.flds.length<=9223372036854775807
 n3:c.mths.length<=9223372036854775807
theorem ZgZ (s:List UInt8)(w:World)(f:Zaw s) :
  Calls prog 130 #[.string (S s)] w (Said (memB s) w):=by
 have h:=Hd (ZqT s w f);have i:Hid (∀w,Calls prog 120 #[.string (S s)] w (Said (Zah s) w)):=Hd (fun w=>ZbV s w f);unfold memB;generalize ZbS s=a at h⊢;generalize Zah s=b at i⊢;clear f;go_enter func130,ntmps130
 go_wp2_with fail;refine h.o.mono ?_;rintro e k⟨rfl,c⟩;cases a
 ·go_wp2;go_ret;exact⟨rfl,c⟩
 ·have g:=Hd c;clear c;go_wp2_with fail;refine(i.o _).mono ?_;rintro e w2⟨rfl,d⟩;have j:Below w.heap.size w w2:=g.o.trans (d.mono g.o.size);clear d;go_wp2;go_ret;exact⟨rfl,j⟩
theorem Zm8 (f:Fld)(w:World)(j:Zaw f.name)(l:Zaw f.kind) :
  Calls prog 80 #[fldV f] w (Said f.ok w):=by
 have k:Hid (∀w,Calls prog 130 #[.string (S f.name)] w (Said (memB f.name) w)):=Hd (fun w=>ZgZ f.name w j);have m:Hid (∀w,Calls prog 131 #[.string (S f.kind)] w (Said (Zag f.kind) w)):=Hd (fun w=>Zgq f.kind w l);unfold Fld.ok;generalize memB f.name=a at k⊢;generalize Zag f.kind=b at m⊢;clear j l;go_enter func80,ntmps80
 go_wp2_with fail;have h:=Box.new w #[.string (S f.name),.string (S f.kind),.bool f.tr] 82;have c:Below w.heap.size w (w.alloc (.cells #[.string (S f.name),.string (S f.kind),.bool f.tr] 82)):=(Yab _ w).alloc (Yad _) _;refine(k.o _).mono ?_;rintro e q⟨rfl,d⟩;have p:=(h.below d).cell 1 rfl;have i:=Hd (c.trans (d.mono c.size));clear h c d;cases a
 ·go_wp2;go_ret;exact⟨rfl,i.o⟩
 ·go_wp2_with fail;refine(m.o _).mono ?_;rintro e w2⟨rfl,g⟩;have n:Below w.heap.size w w2:=i.o.trans (g.mono i.o.size);clear g p;go_wp2;go_ret;exact⟨rfl,n⟩
theorem Zm7 (c:Cat)(n:Nat)(w:World)(r:Zaw c.cls) :
  Calls prog 195 #[catV c,.int .i64 (n:Nat)] w (Said (Cat.ok n c) w):=by
 have l:Hid (∀w,Calls prog 120 #[.string (S c.cls)] w (Said (Zah c.cls) w)):=Hd (fun w=>ZbV c.cls w r);unfold Cat.ok;obtain⟨m,k,at_,cls⟩:=c;dsimp only at l⊢;generalize Zah cls=b at l⊢;clear r;by_cases f:0<=m
 case neg=>
  rw[Yan f];have u:=Yan f;go_enter func195,ntmps195;go_wp2;go_ret;exact⟨rfl,(Yab _ w).alloc (Yad _) _⟩
 rw[Yas f,YaG];have u:=Yas f;by_cases d:m<k
 case neg=>
  rw[Yan d];have q:=Yan d;go_enter func195,ntmps195;go_wp2;go_ret;exact⟨rfl,(Yab _ w).alloc (Yad _) _⟩
 rw[Yas d,YaG];have q:=Yas d;by_cases h:k<=(n:Int)
 case neg=>
  rw[Yan h];have s:=Yan h;go_enter func195,ntmps195;go_wp2;go_ret;exact⟨rfl,(Yab _ w).alloc (Yad _) _⟩
 rw[Yas h,YaG];have s:=Yas h;by_cases g:0<=at_
 case neg=>
  rw[Yan g];have p:=Yan g;go_enter func195,ntmps195;go_wp2;go_ret;exact⟨rfl,(Yab _ w).alloc (Yad _) _⟩
 rw[Yas g,YaG];have p:=Yas g;by_cases i:at_<(n:Int)
 case neg=>
  rw[Yan i];have t:=Yan i;go_enter func195,ntmps195;go_wp2;go_ret;exact⟨rfl,(Yab _ w).alloc (Yad _) _⟩
 rw[Yas i,YaG];have t:=Yas i;go_enter func195,ntmps195
 go_wp2_with fail;have a:Below w.heap.size w (w.alloc (.cells #[.int .i64 m,.int .i64 k,.int .i64 at_,.string (S cls)] 173)):=(Yab _ w).alloc (Yad _) _;refine(l.o _).mono ?_;rintro e x⟨rfl,j⟩;have v:=Hd (a.trans (j.mono a.size));clear a j;go_wp2;go_ret;exact⟨rfl,v.o⟩
theorem Zm6 (c:Cat)(B:Nat)(f:Option Addr)(n d:Nat)(w:World)(j:Zaw c.cls)(a:w.cell? ⟨B,5,none⟩=some (.slice f n d)) :
  Calls prog 194 #[catV c,.pointer (some ⟨B,0,none⟩)] w (Said (Cat.ok n c) w):=by
 have h:Hid (∀w,Calls prog 195 #[catV c,.int .i64 (n:Nat)] w (Said (Cat.ok n c) w)):=Hd (fun w=>Zm7 c n w j);generalize Cat.ok n c=b at h⊢;have k:B<w.heap.size:=World.block_lt_of_cell? w _ a;have g:∀o:Obj,(w.alloc o).cell? ⟨B,5,none⟩=some (.slice f n d):=fun o=>((Yak (fun _=>False) w).alloc o).cell a id;clear a;go_enter func194,ntmps194
 go_wp2_with fail;refine(h.o _).mono ?_;rintro e l⟨rfl,i⟩;clear g;go_wp2;go_ret;exact⟨rfl,((Yab _ w).alloc (Yad _) _).trans (i.mono (by simp))⟩
theorem Zm9 (x:Ins)(w:World)(c:CT w)(g:Zaw x.s) :
  Calls prog 192 #[ZkV x] w (Said x.fine w):=by
 have f:=Hd c;clear c;go_enter func192,ntmps192
 go_wp2_with fail;have a:Below w.heap.size w (w.alloc (.cells #[.string (S x.op),.int .i64 x.n,.string (S x.s)] 28)):=(Yab _ w).alloc (Yad _) _;refine(Znz x.op x.n x.s _ (f.o.keep a) g).mono ?_;rintro e h⟨rfl,b⟩;have d:=Hd (a.trans (b.mono a.size));clear a b;go_wp2;go_ret;refine⟨?_,d.o⟩;refine Ya8 (fun i=>Ending.returned (.bool i)) ?_;unfold Ins.fine Ins.e;rw[Ybk,beq_iff_eq,beq_iff_eq];omega
theorem ZoN {A:Nat->Prop}(m:Mth)(v:Value)(w:World)(i:MthR A w m v) :
  Calls prog 118 #[v] w (Said m.many w):=by
 obtain⟨_,_,_,rfl,⟨s,n,rfl⟩,⟨r,p,rfl⟩,⟨l,q,rfl⟩⟩:=Zaj i;clear i;unfold Mth.many;generalize m.params.length=c;generalize m.cats.length=a;generalize m.code.length=b;obtain⟨name,params,res,abs,loc,code,cats⟩:=m;dsimp only;by_cases d:32<c
 case pos=>
  rw[Yas d];have g:32<(c:Int):=by omega
  go_enter func118,ntmps118;go_wp2;go_ret;exact⟨rfl,(Yab _ w).alloc (Yad _) _⟩
 rw[Yan d,YaV];have g:¬(32<(c:Int)):=by omega
 by_cases j:32<a
 case pos=>
  rw[Yas j];have f:32<(a:Int):=by omega
  go_enter func118,ntmps118;go_wp2;go_ret;exact⟨rfl,(Yab _ w).alloc (Yad _) _⟩
 rw[Yan j,YaV];have f:¬(32<(a:Int)):=by omega
 by_cases h:200<b
 case pos=>
  rw[Yas h];have k:200<(b:Int):=by omega
  go_enter func118,ntmps118;go_wp2;go_ret;exact⟨rfl,(Yab _ w).alloc (Yad _) _⟩
 rw[Yan h,YaV];have k:¬(200<(b:Int)):=by omega
 go_enter func118,ntmps118;go_wp2;go_ret;exact⟨rfl,(Yab _ w).alloc (Yad _) _⟩
theorem ZiJ {A:Nat->Prop}(x:Mth)(v:Value)(w:World)(a:MthR A w x v) :
  Calls prog 128 #[v] w (Said x.abs w):=by
 obtain⟨_,_,_,rfl,⟨h,d,rfl⟩,⟨g,f,rfl⟩,⟨c,b,rfl⟩⟩:=Zaj a;clear a;go_enter func128,ntmps128;go_wp2;go_ret;exact⟨rfl,(Yab _ w).alloc (Yad _) _⟩
theorem Zss {A:Nat->Prop}(x:List UInt8)(v:Value)(w:World)(a:StrR A w x v) :
  Calls prog 123 #[v] w (Zcc x w):=by
 obtain rfl:=a;go_enter func123,ntmps123;go_wp2;go_ret;exact⟨rfl,Yab _ w⟩
theorem Zst {A:Nat->Prop}(x:Fld)(v:Value)(w:World)(a:FldR A w x v) :
  Calls prog 125 #[v] w (Zcc x.name w):=by
 obtain rfl:=a;go_enter func125,ntmps125;go_wp2;go_ret;exact⟨rfl,(Yab _ w).alloc (Yad _) _⟩
theorem Zsu {A:Nat->Prop}(x:Mth)(v:Value)(w:World)(a:MthR A w x v) :
  Calls prog 127 #[v] w (Zcc x.name w):=by
 obtain⟨_,_,_,rfl,⟨h,d,rfl⟩,⟨g,f,rfl⟩,⟨c,b,rfl⟩⟩:=Zaj a;clear a;go_enter func127,ntmps127;go_wp2;go_ret;exact⟨rfl,(Yab _ w).alloc (Yad _) _⟩
end Go.Proofs.YtegljjbclladdaaGreatDoor
namespace Go.Proofs.YtegljjbclladdaaGreatDoor
open Go.RowKit Go.Lib Tryz
def Zbr (n c a b b3:Nat):Nat:=
 if c<128 then 1
 else if 194<=c/\c<224/\1<n/\128<=a/\a<192 then 2
 else if 224<=c/\c<240/\(1<n/\128<=a/\a<192)/\2<n/\128<=b/\b<192 then
  (if 2048<=c%16*4096+a%64*64+b%64/\(c%16*4096+a%64*64+b%64<55296\/57343<c%16*4096+a%64*64+b%64)then 3 else 0)
 else if 240<=c/\c<245/\(1<n/\128<=a/\a<192)/\(2<n/\128<=b/\b<192)/\3<n/\128<=b3/\b3<192 then
  (if 65536<=c%8*262144+a%64*4096+b%64*64+b3%64/\c%8*262144+a%64*4096+b%64*64+b3%64<=1114111 then 4 else 0)
 else 0
theorem Zlx (n c a b b3:Nat)(G:128<=c)(H:a<256)(I:b<256)(J:b3<256) :
  checkN n a b b3 (firstT c%8) (accLo (firstT c/16)) (accHi (firstT c/16))=if Zbr n c a b b3=0 then none else some (Zbr n c a b b3):=by
 have g:∀w lo h,firstT c%8=w->accLo (firstT c/16)=lo->accHi (firstT c/16)=h->checkN n a b b3 w lo h=(if Zbr n c a b b3=0 then none else some (Zbr n c a b b3))->
   checkN n a b b3 (firstT c%8) (accLo (firstT c/16)) (accHi (firstT c/16))=if Zbr n c a b b3=0 then none else some (Zbr n c a b b3):=fun w lo h B C E y=>by rw[B,C,E];exact y
 have d:¬c<128:=by omega
 by_cases i:c<194
 ·refine g 1 _ _ (by simp[firstT,d,i]) rfl rfl ?_;have e:Zbr n c a b b3=0:=by
   unfold Zbr;rw[Yar d,Yar (by omega),Yar (by omega),Yar (by omega)]
  rw[e];rfl
 by_cases k:c<224
 ·refine g 2 128 191 (by simp[firstT,d,i,k]) (by simp[firstT,accLo,d,i,k]) (by simp[firstT,accHi,d,i,k]) ?_;by_cases x:1<n/\128<=a/\a<192
  ·have e:Zbr n c a b b3=2:=by unfold Zbr;rw[Yar d,Yay (by omega)]
   rw[e];unfold checkN;rw[Yay rfl,Yar (by omega)];rfl
  ·have e:Zbr n c a b b3=0:=by unfold Zbr;rw[Yar d,Yar (by omega),Yar (by omega),Yar (by omega)]
   rw[e];unfold checkN;rw[Yay rfl,Yay (by omega)];rfl
 have l:∀lo h,(2048<=c%16*4096+a%64*64+b%64/\(c%16*4096+a%64*64+b%64<55296\/57343<c%16*4096+a%64*64+b%64)↔lo<=a/\a<=h)\/¬(128<=a/\a<192)->128<=lo->h<=191->c<240->
   checkN n a b b3 3 lo h=(if Zbr n c a b b3=0 then none else some (Zbr n c a b b3)):=by
  intro lo h f z A D;by_cases x:(1<n/\128<=a/\a<192)/\2<n/\128<=b/\b<192
  ·by_cases t:lo<=a/\a<=h
   ·have e:Zbr n c a b b3=3:=by
     unfold Zbr;rw[Yar d,Yar (by omega),Yay (by omega),Yay];rcases f with f|f
     ·exact f.2 t
     ·omega
    rw[e];unfold checkN;rw[Yar (by decide),Yay rfl,Yar (by omega)];rfl
   ·have e:Zbr n c a b b3=0:=by
     unfold Zbr;rw[Yar d,Yar (by omega),Yay (by omega),Yar];rcases f with f|f
     ·exact fun y=>t (f.1 y)
     ·omega
    rw[e];unfold checkN;rw[Yar (by decide),Yay rfl,Yay (by omega)];rfl
  ·have e:Zbr n c a b b3=0:=by
    unfold Zbr;rw[Yar d,Yar (by omega),Yar (by omega),Yar (by omega)]
   rw[e];unfold checkN;rw[Yar (by decide),Yay rfl,Yay (by omega)];rfl
 have r:∀lo h,(65536<=c%8*262144+a%64*4096+b%64*64+b3%64/\c%8*262144+a%64*4096+b%64*64+b3%64<=1114111↔lo<=a/\a<=h)\/¬(128<=a/\a<192)->128<=lo->h<=191->240<=c->c<245->
   checkN n a b b3 4 lo h=(if Zbr n c a b b3=0 then none else some (Zbr n c a b b3)):=by
  intro lo h f z A D F;by_cases x:(1<n/\128<=a/\a<192)/\(2<n/\128<=b/\b<192)/\3<n/\128<=b3/\b3<192
  ·by_cases t:lo<=a/\a<=h
   ·have e:Zbr n c a b b3=4:=by
     unfold Zbr;rw[Yar d,Yar (by omega),Yar (by omega),Yay (by omega),Yay];rcases f with f|f
     ·exact f.2 t
     ·omega
    rw[e];unfold checkN;rw[Yar (by decide),Yar (by decide),Yay rfl,Yar (by omega)];rfl
   ·have e:Zbr n c a b b3=0:=by
     unfold Zbr;rw[Yar d,Yar (by omega),Yar (by omega),Yay (by omega),Yar];rcases f with f|f
     ·exact fun y=>t (f.1 y)
     ·omega
    rw[e];unfold checkN;rw[Yar (by decide),Yar (by decide),Yay rfl,Yay (by omega)];rfl
  ·have e:Zbr n c a b b3=0:=by
    unfold Zbr;rw[Yar d,Yar (by omega),Yar (by omega),Yar (by omega)]
   rw[e];unfold checkN;rw[Yar (by decide),Yar (by decide),Yay rfl,Yay (by omega)];rfl
 by_cases j:c=224
 ·exact g 3 160 191 (by subst j;decide) (by subst j;decide) (by subst j;decide) (l 160 191 (by omega) (by omega) (by omega) (by omega))
 by_cases m:c<237
 ·exact g 3 128 191 (by simp[firstT,d,i,k,j,m]) (by simp[firstT,accLo,d,i,k,j,m]) (by simp[firstT,accHi,d,i,k,j,m]) (l 128 191 (by omega) (by omega) (by omega) (by omega))
 by_cases p:c=237
 ·exact g 3 128 159 (by subst p;decide) (by subst p;decide) (by subst p;decide) (l 128 159 (by omega) (by omega) (by omega) (by omega))
 by_cases q:c<240
 ·exact g 3 128 191 (by simp[firstT,d,i,k,j,m,p,q]) (by simp[firstT,accLo,d,i,k,j,m,p,q]) (by simp[firstT,accHi,d,i,k,j,m,p,q]) (l 128 191 (by omega) (by omega) (by omega) (by omega))
 by_cases s:c=240
 ·exact g 4 144 191 (by subst s;decide) (by subst s;decide) (by subst s;decide) (r 144 191 (by omega) (by omega) (by omega) (by omega) (by omega))
 by_cases u:c<244
 ·exact g 4 128 191 (by simp[firstT,d,i,k,j,m,p,q,s,u]) (by simp[firstT,accLo,d,i,k,j,m,p,q,s,u]) (by simp[firstT,accHi,d,i,k,j,m,p,q,s,u]) (r 128 191 (by omega) (by omega) (by omega) (by omega) (by omega))
 by_cases v:c=244
 ·exact g 4 128 143 (by subst v;decide) (by subst v;decide) (by subst v;decide) (r 128 143 (by omega) (by omega) (by omega) (by omega) (by omega))
 ·refine g 1 _ _ (by simp[firstT,d,i,k,j,m,p,q,s,u,v]) rfl rfl ?_;have e:Zbr n c a b b3=0:=by
   unfold Zbr;rw[Yar d,Yar (by omega),Yar (by omega),Yar (by omega)]
  rw[e];rfl
def ZfH (l:List UInt8):Nat:=Zbr l.length (l.getD 0 0).toNat (l.getD 1 0).toNat (l.getD 2 0).toNat (l.getD 3 0).toNat
theorem Zg9 (l:List UInt8)(c:l≠[]):validD l=if ZfH l=0 then false else validD (l.drop (ZfH l)):=by
 by_cases d:(l.getD 0 0).toNat<128
 ·have e:ZfH l=1:=by unfold ZfH Zbr;rw[Yay d]
  rw[e];cases l with
  |nil=>exact absurd rfl c
  |cons b t=>rw[validD_cons b t (by simpa using d)];rfl
 ·rw[validD_lead l c (by omega),Zlx _ _ _ _ _ (by omega) (UInt8.toNat_lt _) (UInt8.toNat_lt _) (UInt8.toNat_lt _)];show(match (if ZfH l=0 then none else some (ZfH l))with|none=>false|some k=>validD (l.drop k))=_;by_cases a:ZfH l=0
  ·rw[Yay a,Yay a]
  ·rw[Yar a,Yar a]
theorem Zqj (l:List UInt8)(a:l≠[]):ZfH l<=l.length:=by
 have b:0<l.length:=List.length_pos_iff.2 a;unfold ZfH Zbr;repeat' split
 all_goals omega
end Go.Proofs.YtegljjbclladdaaGreatDoor
namespace Go.Proofs.YtegljjbclladdaaGreatDoor
open Go.RowKit Go.Lib Tryz
def aft (s:ByteArray)(i:Nat):Bool:=decide (i<s.size)&&(decide (128<=(s.get! i).toNat)&&decide ((s.get! i).toNat<192))
theorem get!_of_lt (s:ByteArray)(i:Nat)(a:i<s.size):s[i]'a=s.get! i:=(Utf8W.get!_of_lt s i a).symm
theorem Zno (s:ByteArray)(i:Nat)(w:World) :
  Calls prog 259 #[.string s,.int .i64 i] w fun e w'=>e=.returned (.bool (aft s i))/\w=w':=by
 unfold aft;by_cases j:i<s.size
 ·have h:(i:Int)<(s.size:Int):=by omega
  have g:=get!_of_lt s i j;obtain⟨x,a⟩:∃x,x=s.get! i:=⟨_,rfl⟩
  rw[←a]at g⊢;clear a;have k:=x.toNat_lt;rw[Yas j,YaG];by_cases b:128<=x.toNat
  ·have f:(128:Int)<=(x.toNat:Int):=by omega
   rw[Yas b,YaG];by_cases c:x.toNat<192
   ·have d:(x.toNat:Int)<192:=by omega
    rw[Yas c];go_enter func259,ntmps259;go_wp2;go_ret;exact⟨rfl,rfl⟩
   ·have d:decide ((x.toNat:Int)<192)=false:=by simp;omega
    rw[Yan c];go_enter func259,ntmps259;go_wp2;go_ret;exact⟨rfl,rfl⟩
  ·have f:decide ((128:Int)<=(x.toNat:Int))=false:=by simp;omega
   rw[Yan b,YaQ];go_enter func259,ntmps259;go_wp2;go_ret;exact⟨rfl,rfl⟩
 ·have h:decide ((i:Int)<(s.size:Int))=false:=by simp;omega
  rw[Yan j,YaQ];go_enter func259,ntmps259;go_wp2;go_ret;exact⟨rfl,rfl⟩
def Zlw (s:ByteArray):Nat:=Zbr s.size (s.get! 0).toNat (s.get! 1).toNat (s.get! 2).toNat (s.get! 3).toNat
theorem Zd5 {s:ByteArray}{i:Nat}(a:i<s.size/\128<=(s.get! i).toNat/\(s.get! i).toNat<192):aft s i=true:=by simp[aft,a]
theorem Zdj {s:ByteArray}{i:Nat}(a:¬(i<s.size/\128<=(s.get! i).toNat/\(s.get! i).toNat<192)):aft s i=false:=by
 cases e:aft s i with
 |false=>rfl
 |true=>simp[aft]at e;exact absurd ⟨e.1,e.2.1,e.2.2⟩ a
theorem Zqk (s:ByteArray)(w:World)(N:0<s.size) :
  Calls prog 252 #[.string s] w fun e w'=>e=.returned (.int .i64 (Zlw s))/\∃ac,w'=w.drewN ac:=by
 have f:Hid (∀(i:Nat) (w:World),Calls prog 259 #[.string s,.int .i64 i] w fun e w'=>e=.returned (.bool (aft s i))/\w=w'):=fun i w=>Zno s i w;have U:(0:Int)<(s.size:Int):=by omega
 have G:=get!_of_lt s 0 N;obtain⟨R,a⟩:∃R,R=Zlw s:=⟨_,rfl⟩
 rw[←a];unfold Zlw Zbr at a;obtain⟨c,L⟩:∃c,c=s.get! 0:=⟨_,rfl⟩
 rw[←L]at G a;have W:=c.toNat_lt;clear L;by_cases l:c.toNat<128
 ·rw[Yay l]at a;subst a;have M:(c.toNat:Int)<128:=by omega
  go_enter func252,ntmps252;go_wp2;go_ret;exact⟨rfl,0,rfl⟩
 rw[Yar l]at a;have M:(128:Int)<=(c.toNat:Int):=by omega
 by_cases k:194<=c.toNat/\c.toNat<224
 ·have Q:(194:Int)<=(c.toNat:Int):=by omega
  have Z:(c.toNat:Int)<224:=by omega
  by_cases d:1<s.size/\128<=(s.get! 1).toNat/\(s.get! 1).toNat<192
  ·rw[Yay ⟨k.1,k.2,d⟩]at a;subst a;have h:=Hd (Zd5 d);clear d l k;go_enter func252,ntmps252
   go_wp2_with (go_at_call 259;refine(f.o 1 _).mono ?_;rintro e g⟨rfl,rfl⟩;rw[h.o])
   go_ret;exact⟨rfl,0,rfl⟩
  ·rw[Yar (by omega),Yar (by omega),Yar (by omega)]at a;subst a;have h:=Hd (Zdj d);clear d l k;go_enter func252,ntmps252
   go_wp2_with (go_at_call 259;refine(f.o 1 _).mono ?_;rintro e g⟨rfl,rfl⟩;rw[h.o])
   go_ret;exact⟨rfl,0,rfl⟩
 rw[Yar (by omega)]at a;by_cases m:224<=c.toNat/\c.toNat<240
 ·have T:(224:Int)<=(c.toNat:Int):=by omega
  have P:(c.toNat:Int)<240:=by omega
  by_cases d:1<s.size/\128<=(s.get! 1).toNat/\(s.get! 1).toNat<192
  ·have h:=Hd (Zd5 d);by_cases j:2<s.size/\128<=(s.get! 2).toNat/\(s.get! 2).toNat<192
   ·have n:=Hd (Zd5 j);rw[Yay ⟨m.1,m.2,d,j⟩]at a;have B:1<s.size:=d.1;have C:2<s.size:=j.1;have u:=get!_of_lt s 1 B;have v:=get!_of_lt s 2 C;have J:(1:Int)<(s.size:Int):=by omega
    have H:(2:Int)<(s.size:Int):=by omega
    obtain⟨A,p⟩:∃b,b=s.get! 1:=⟨_,rfl⟩
    obtain⟨y,q⟩:∃b,b=s.get! 2:=⟨_,rfl⟩
    rw[←p]at u a d;rw[←q]at v a j;have F:=A.toNat_lt;have K:=y.toNat_lt;have z:=Hd a;clear p q l k m a;go_enter func252,ntmps252
    go_wp2_with (first|(go_at_call_of 259 (Value.int IntKind.i64 1);refine(f.o 1 _).mono ?_;rintro e g⟨rfl,rfl⟩;rw[h.o])|(go_at_call_of 259 (Value.int IntKind.i64 2);refine(f.o 2 _).mono ?_;rintro e g⟨rfl,rfl⟩;rw[n.o]))
    go_quiet (fail)
    go_wp2;all_goals
     go_ret;exact⟨ZhX (by rw[z.o];first|(rw[Yay (by omega)];rfl)|(rw[Yar (by omega)];rfl)),_,rfl⟩
   ·rw[Yar (by omega),Yar (by omega)]at a;subst a;have n:=Hd (Zdj j);clear d j l k m;go_enter func252,ntmps252
    go_wp2_with (first|(go_at_call_of 259 (Value.int IntKind.i64 1);refine(f.o 1 _).mono ?_;rintro e g⟨rfl,rfl⟩;rw[h.o])|(go_at_call_of 259 (Value.int IntKind.i64 2);refine(f.o 2 _).mono ?_;rintro e g⟨rfl,rfl⟩;rw[n.o]))
    go_ret;exact⟨rfl,0,rfl⟩
  ·rw[Yar (by omega),Yar (by omega)]at a;subst a;have h:=Hd (Zdj d);clear d l k m;go_enter func252,ntmps252
   go_wp2_with (first|(go_at_call_of 259 (Value.int IntKind.i64 1);refine(f.o 1 _).mono ?_;rintro e g⟨rfl,rfl⟩;rw[h.o]))
   go_ret;exact⟨rfl,0,rfl⟩
 rw[Yar (by omega)]at a;by_cases r:240<=c.toNat/\c.toNat<245
 ·have V:(240:Int)<=(c.toNat:Int):=by omega
  have X:(c.toNat:Int)<245:=by omega
  by_cases d:1<s.size/\128<=(s.get! 1).toNat/\(s.get! 1).toNat<192
  ·have h:=Hd (Zd5 d);by_cases j:2<s.size/\128<=(s.get! 2).toNat/\(s.get! 2).toNat<192
   ·have n:=Hd (Zd5 j);by_cases t:3<s.size/\128<=(s.get! 3).toNat/\(s.get! 3).toNat<192
    ·have D:=Hd (Zd5 t);rw[Yay ⟨r.1,r.2,d,j,t⟩]at a;have B:1<s.size:=d.1;have C:2<s.size:=j.1;have O:3<s.size:=t.1;have u:=get!_of_lt s 1 B;have v:=get!_of_lt s 2 C;have E:=get!_of_lt s 3 O;have J:(1:Int)<(s.size:Int):=by omega
     have H:(2:Int)<(s.size:Int):=by omega
     have aa:(3:Int)<(s.size:Int):=by omega
     obtain⟨A,p⟩:∃b,b=s.get! 1:=⟨_,rfl⟩
     obtain⟨y,q⟩:∃b,b=s.get! 2:=⟨_,rfl⟩
     obtain⟨b3,x⟩:∃b,b=s.get! 3:=⟨_,rfl⟩
     rw[←p]at u a d;rw[←q]at v a j;rw[←x]at E a t;have F:=A.toNat_lt;have K:=y.toNat_lt;have Y:=b3.toNat_lt;have z:=Hd a;clear p q x l k m r a;go_enter func252,ntmps252
     go_wp2_with (first|(go_at_call_of 259 (Value.int IntKind.i64 1);refine(f.o 1 _).mono ?_;rintro e g⟨rfl,rfl⟩;rw[h.o])|(go_at_call_of 259 (Value.int IntKind.i64 2);refine(f.o 2 _).mono ?_;rintro e g⟨rfl,rfl⟩;rw[n.o])|(go_at_call_of 259 (Value.int IntKind.i64 3);refine(f.o 3 _).mono ?_;rintro e g⟨rfl,rfl⟩;rw[D.o]))
     go_quiet (fail)
     go_wp2;all_goals
      go_ret;exact⟨ZhX (by rw[z.o];first|(rw[Yay (by omega)];rfl)|(rw[Yar (by omega)];rfl)),_,rfl⟩
    ·rw[Yar (by omega)]at a;subst a;have D:=Hd (Zdj t);clear d j t l k m r;go_enter func252,ntmps252
     go_wp2_with (first|(go_at_call_of 259 (Value.int IntKind.i64 1);refine(f.o 1 _).mono ?_;rintro e g⟨rfl,rfl⟩;rw[h.o])|(go_at_call_of 259 (Value.int IntKind.i64 2);refine(f.o 2 _).mono ?_;rintro e g⟨rfl,rfl⟩;rw[n.o])|(go_at_call_of 259 (Value.int IntKind.i64 3);refine(f.o 3 _).mono ?_;rintro e g⟨rfl,rfl⟩;rw[D.o]))
     go_ret;exact⟨rfl,0,rfl⟩
   ·rw[Yar (by omega)]at a;subst a;have n:=Hd (Zdj j);clear d j l k m r;go_enter func252,ntmps252
    go_wp2_with (first|(go_at_call_of 259 (Value.int IntKind.i64 1);refine(f.o 1 _).mono ?_;rintro e g⟨rfl,rfl⟩;rw[h.o])|(go_at_call_of 259 (Value.int IntKind.i64 2);refine(f.o 2 _).mono ?_;rintro e g⟨rfl,rfl⟩;rw[n.o]))
    go_ret;exact⟨rfl,0,rfl⟩
  ·rw[Yar (by omega)]at a;subst a;have h:=Hd (Zdj d);clear d l k m r;go_enter func252,ntmps252
   go_wp2_with (first|(go_at_call_of 259 (Value.int IntKind.i64 1);refine(f.o 1 _).mono ?_;rintro e g⟨rfl,rfl⟩;rw[h.o]))
   go_ret;exact⟨rfl,0,rfl⟩
 ·rw[Yar (by omega)]at a;subst a;by_cases ab:c.toNat<194
  ·have I:(c.toNat:Int)<194:=by omega
   clear l k m r;go_enter func252,ntmps252;go_wp2;go_ret;exact⟨rfl,0,rfl⟩
  ·have I:(245:Int)<=(c.toNat:Int):=by omega
   clear l k m r;go_enter func252,ntmps252;go_wp2;go_ret;exact⟨rfl,0,rfl⟩
