/- laws -/
import Derived.Test.YtegljjbclladdaaGreatDoorK07
import Derived.Deep.RegionHeld
set_option maxRecDepth 100000
set_option maxHeartbeats 16000000
namespace Go.Proofs.YtegljjbclladdaaGreatDoor
open Go.RowKit Tryz
theorem ZlU {A:Nat->Prop}(N:Nat)(i:Array Value)(p:Mth->Bool)(l:List (Mth))(sv:Value)(w:World)(t:∀args w,(callFunc N args).run prog w=.ok (.enter N args) w)
  (af:Src 7 MthR A w sv l)(M:Zeg MthR A N i p l w)(F:l.length<=9223372036854775807) :
  Calls prog 182 #[sv,.func (.func N) #[] i] w (Zll (l.any p) w):=by
 have U:=Hd M;have O:=Hd t;clear M t;rcases af with⟨aq,ai,rfl,rfl⟩|⟨b,o,am,rfl,_,L⟩
 ·go_enter func182,ntmps182;go_wp2
  go_loopw [8] (fun s wr=>s=.int .i64 0/\wr=w) (fun _ _=>0)
  case atStart=>exact⟨rfl,rfl⟩
  case round=>
   obtain⟨rfl,rfl⟩:=hrel;go_wp2;go_ret;exact⟨-1,rfl,rfl,Yab _ _⟩
 ·have ah:=Hd L;obtain⟨n,E⟩:∃n,n=l.length:=⟨_,rfl⟩
  rw[←E]at F⊢;have H:=Hd E;clear L E;go_enter func182,ntmps182;go_wp2
  go_loopw [8] (fun s wr=>∃k:Nat,k<=n/\s=.int .i64 k/\(l.take k).any p=false/\Below w.heap.size w wr) (fun s _=>n-(intOf s).toNat)
  case atStart=>exact⟨0,Yao _,rfl,by simp,Yab _ _⟩
  case round=>
   obtain⟨k,ap,rfl,h,D⟩:=hrel;have K:=Hd h;have g:=Hd D;clear h D;by_cases ao:k<n
   ·have B:k<l.length:=by have:=H.o;omega
    obtain⟨x,u⟩:∃x,l[k]?=some x:=⟨_,Yaa B⟩
    have c:=Yae (S:=fun _=>False) g.o;obtain⟨v,J,G,d⟩:=ah.o k x u;have X:=Hd (MthR.st.keep J c (fun _ _=>id));obtain⟨_,_,_,rfl,⟨W,R,rfl⟩,⟨ab,T,rfl⟩,⟨P,V,rfl⟩⟩:=Zaj J;have Z:wr.cell? ⟨b,o+k*7,none⟩=some (.string (S x.name)):=c.cell (a:=⟨b,o+k*7,none⟩) (d 0 _ rfl) id;have ae:wr.cell? ⟨b,o+k*7+1,none⟩=some (.slice W x.params.length R):=c.cell (a:=⟨b,o+k*7+1,none⟩) (d 1 _ rfl) id;have Y:wr.cell? ⟨b,o+k*7+2,none⟩=some (.string (S x.res)):=c.cell (a:=⟨b,o+k*7+2,none⟩) (d 2 _ rfl) id;have ad:wr.cell? ⟨b,o+k*7+3,none⟩=some (.bool x.abs):=c.cell (a:=⟨b,o+k*7+3,none⟩) (d 3 _ rfl) id;have ac:wr.cell? ⟨b,o+k*7+4,none⟩=some (.int .i64 x.loc):=c.cell (a:=⟨b,o+k*7+4,none⟩) (d 4 _ rfl) id;have ag:wr.cell? ⟨b,o+k*7+5,none⟩=some (.slice ab x.code.length T):=c.cell (a:=⟨b,o+k*7+5,none⟩) (d 5 _ rfl) id;have aa:wr.cell? ⟨b,o+k*7+6,none⟩=some (.slice P x.cats.length V):=c.cell (a:=⟨b,o+k*7+6,none⟩) (d 6 _ rfl) id;clear d G;have I:=Hd u;have m:=Zap p l k x u;rw[K.o,YaV]at m;have q:=Hd m;clear u B c m;have aj:(0:Int)<=k:=by omega
    have al:(k:Int)<(n:Int):=by omega
    have t:=O.o;go_wp2_with fail;refine(U.o k x _ wr I.o g.o X.o).mono ?_;rintro e Q⟨rfl,z⟩;have C:Below w.heap.size w Q:=g.o.trans (z.mono g.o.size);have y:=Hd C;clear z C t Z ae Y ad ac ag aa;cases j:p x with
    |true=>
     rw[j]at q;have f:l.any p=true:=by
      rw[YaU];exact⟨x,Yaf I.o,j⟩
     have r:=Hd f;clear j f;go_wp2;go_ret;exact⟨k,rfl,by rw[r.o];simp,y.o⟩
    |false=>
     rw[j]at q;clear j;go_wp2;go_roundw
     case rel=>exact⟨k+1,by omega,by go_num,q.o,y.o⟩
     case measure=>simp[intOf];omega
   ·obtain rfl:k=n:=by omega
    have f:l.any p=false:=by
     have ak:=K.o;rw[H.o,Yaz (Yad _)]at ak;exact ak
    have r:=Hd f;clear f;go_wp2;go_ret;exact⟨-1,rfl,by rw[r.o];rfl,g.o⟩
theorem Zdn {A:Nat->Prop}(i:Nat)(a:Array Value)(p:Mth->Bool)(l:List (Mth))(sv:Value)(w:World)(j:∀args w,(callFunc i args).run prog w=.ok (.enter i args) w)
  (c:Src 7 MthR A w sv l)(k:Zeg MthR A i a p l w)(b:l.length<=9223372036854775807) :
  Calls prog 117 #[sv,.func (.func i) #[] a] w (Said (l.any p) w):=by
 have d:=Hd (ZlU i a p l sv w j c k b);obtain⟨s,u,rfl⟩:=c.shape;generalize l.any p=f at d⊢;generalize l.length=n at d⊢;clear j c k b;go_enter func117,ntmps117
 go_wp2_with fail;refine d.o.mono ?_;rintro e r⟨z,rfl,h,g⟩;have q:=Hd h;have m:=Hd g;clear h g;go_wp2;go_ret;exact⟨Ya8 (fun t=>Ending.returned (.bool t)) q.o,m.o⟩
theorem Zqb (d:Nat)(a:Array Value)(c:Nat)(x:Mth)(v:Value)(n:Bool)(w:World)(k:∀args w,(callFunc d args).run prog w=.ok (.enter d args) w)
  (A:Nat->Prop)(l:World)(i:MthR A l x v)(b:w.cell? ⟨c,0,none⟩=some (.func (.func d) #[] a))(g:∀w',Below w.heap.size w w'->Calls prog d (#[v]++a) w' (Said n w')) :
  Calls prog 132 #[v,.pointer (some ⟨c,0,none⟩)] w (Said (!n) w):=by
 obtain⟨_,_,_,rfl,⟨u,p,rfl⟩,⟨y,s,rfl⟩,⟨q,t,rfl⟩⟩:=Zaj i;have j:=Hd g;have m:c<w.heap.size:=World.block_lt_of_cell? w _ b;have f:∀o:Obj,(w.alloc o).cell? ⟨c,0,none⟩=some (.func (.func d) #[] a):=fun o=>((Yak (fun _=>False) w).alloc o).cell b id;clear b;clear g;go_enter func132,ntmps132
 go_wp2_with fail;refine(j.o _ ((Yab _ w).alloc (Yad _) _)).mono ?_;rintro e r⟨rfl,h⟩;clear f k;go_wp2;go_ret;exact⟨rfl,((Yab _ w).alloc (Yad _) _).trans (h.mono (by simp))⟩
theorem Znq {A:Nat->Prop}(i:Nat)(a:Array Value)(p:Mth->Bool)(l:List (Mth))(sv:Value)(w:World)(u:∀args w,(callFunc i args).run prog w=.ok (.enter i args) w)
  (m:Src 7 MthR A w sv l)(z:Zeg MthR A i a p l w)(h:l.length<=9223372036854775807) :
  Calls prog 81 #[sv,.func (.func i) #[] a] w (Said (l.all p) w):=by
 have y:=Ymf;rw[ZcO];have d:Hid (∀B:TypeId,Calls prog 117 #[sv,.func (.func 132) #[] #[.pointer (some ⟨w.heap.size,0,none⟩)]] (w.alloc (.cells #[.func (.func i) #[] a] B)) (Said (l.any fun x=>!p x) (w.alloc (.cells #[.func (.func i) #[] a] B)))):=Hd (fun B=>by
  have c:Below w.heap.size w (w.alloc (.cells #[.func (.func i) #[] a] B)):=(Yab _ w).alloc (Yad _) _;refine Zdn (A:=A) 132 _ (fun x=>!p x) l sv _ (Zac func132 (by kernel_rfl) rfl) (MthR.st.below m c) (fun k x v w' E j t=>?_) h;have r:w'.cell? ⟨w.heap.size,0,none⟩=some (.func (.func i) #[] a):=(Yae (S:=fun _=>False) j).cell (by simp) id;have b:Below w.heap.size w w':=c.trans (j.mono c.size);exact Zqb i a w.heap.size x _ (p x) w' u A w' t r (fun s g=>z k x _ s E (b.trans (g.mono b.size)) (MthR.st.keep t (Yae (S:=fun _=>False) g) (fun _ _=>id))))
 obtain⟨G,F,rfl⟩:=m.shape;generalize (l.any fun x=>!p x)=f at d⊢;generalize l.length=n at d⊢;clear u m z h;go_enter func81,ntmps81
 go_wp2_with fail;refine(d.o _).mono ?_;rintro e D⟨rfl,q⟩;have b:Below w.heap.size w D:=((Yab _ w).alloc (Yad _) _).trans (q.mono (by simp));have C:=Hd b;clear q b y;go_wp2;go_ret;exact⟨rfl,C.o⟩
theorem ZlT {A:Nat->Prop}(O:Nat)(i:Array Value)(p:Ins->Bool)(l:List (Ins))(sv:Value)(w:World)(u:∀args w,(callFunc O args).run prog w=.ok (.enter O args) w)
  (X:Src 3 InsR A w sv l)(N:Zeg InsR A O i p l w)(G:l.length<=9223372036854775807) :
  Calls prog 237 #[sv,.func (.func O) #[] i] w (Zll (l.any p) w):=by
 have R:=Hd N;have P:=Hd u;clear N u;rcases X with⟨ag,Z,rfl,rfl⟩|⟨b,o,ad,rfl,_,M⟩
 ·go_enter func237,ntmps237;go_wp2
  go_loopw [8] (fun t wr=>t=.int .i64 0/\wr=w) (fun _ _=>0)
  case atStart=>exact⟨rfl,rfl⟩
  case round=>
   obtain⟨rfl,rfl⟩:=hrel;go_wp2;go_ret;exact⟨-1,rfl,rfl,Yab _ _⟩
 ·have Y:=Hd M;obtain⟨n,F⟩:∃n,n=l.length:=⟨_,rfl⟩
  rw[←F]at G⊢;have I:=Hd F;clear M F;go_enter func237,ntmps237;go_wp2
  go_loopw [8] (fun t wr=>∃k:Nat,k<=n/\t=.int .i64 k/\(l.take k).any p=false/\Below w.heap.size w wr) (fun t _=>n-(intOf t).toNat)
  case atStart=>exact⟨0,Yao _,rfl,by simp,Yab _ _⟩
  case round=>
   obtain⟨k,af,rfl,h,E⟩:=hrel;have L:=Hd h;have g:=Hd E;clear h E;by_cases ae:k<n
   ·have C:k<l.length:=by have:=I.o;omega
    obtain⟨x,y⟩:∃x,l[k]?=some x:=⟨_,Yaa C⟩
    have d:=Yae (S:=fun _=>False) g.o;obtain⟨v,K,H,f⟩:=Y.o k x y;have T:=Hd (InsR.st.keep K d (fun _ _=>id));obtain rfl:=K;have U:wr.cell? ⟨b,o+k*3,none⟩=some (.string (S x.op)):=d.cell (a:=⟨b,o+k*3,none⟩) (f 0 _ rfl) id;have W:wr.cell? ⟨b,o+k*3+1,none⟩=some (.int .i64 x.n):=d.cell (a:=⟨b,o+k*3+1,none⟩) (f 1 _ rfl) id;have V:wr.cell? ⟨b,o+k*3+2,none⟩=some (.string (S x.s)):=d.cell (a:=⟨b,o+k*3+2,none⟩) (f 2 _ rfl) id;clear f H;have J:=Hd y;have m:=Zap p l k x y;rw[L.o,YaV]at m;have q:=Hd m;clear y C d m;have aa:(0:Int)<=k:=by omega
    have ac:(k:Int)<(n:Int):=by omega
    have u:=P.o;go_wp2_with fail;refine(R.o k x _ wr J.o g.o T.o).mono ?_;rintro e Q⟨rfl,B⟩;have D:Below w.heap.size w Q:=g.o.trans (B.mono g.o.size);have z:=Hd D;clear B D u U W V;cases j:p x with
    |true=>
     rw[j]at q;have c:l.any p=true:=by
      rw[YaU];exact⟨x,Yaf J.o,j⟩
     have r:=Hd c;clear j c;go_wp2;go_ret;exact⟨k,rfl,by rw[r.o];simp,z.o⟩
    |false=>
     rw[j]at q;clear j;go_wp2;go_roundw
     case rel=>exact⟨k+1,by omega,by go_num,q.o,z.o⟩
     case measure=>simp[intOf];omega
   ·obtain rfl:k=n:=by omega
    have c:l.any p=false:=by
     have ab:=L.o;rw[I.o,Yaz (Yad _)]at ab;exact ab
    have r:=Hd c;clear c;go_wp2;go_ret;exact⟨-1,rfl,by rw[r.o];rfl,g.o⟩
theorem ZnD {A:Nat->Prop}(i:Nat)(a:Array Value)(p:Ins->Bool)(l:List (Ins))(sv:Value)(w:World)(j:∀args w,(callFunc i args).run prog w=.ok (.enter i args) w)
  (c:Src 3 InsR A w sv l)(k:Zeg InsR A i a p l w)(b:l.length<=9223372036854775807) :
  Calls prog 222 #[sv,.func (.func i) #[] a] w (Said (l.any p) w):=by
 have d:=Hd (ZlT i a p l sv w j c k b);obtain⟨s,u,rfl⟩:=c.shape;generalize l.any p=f at d⊢;generalize l.length=n at d⊢;clear j c k b;go_enter func222,ntmps222
 go_wp2_with fail;refine d.o.mono ?_;rintro e r⟨z,rfl,h,g⟩;have q:=Hd h;have m:=Hd g;clear h g;go_wp2;go_ret;exact⟨Ya8 (fun t=>Ending.returned (.bool t)) q.o,m.o⟩
theorem Zqa (f:Nat)(a:Array Value)(c:Nat)(x:Ins)(v:Value)(n:Bool)(w:World)(l:∀args w,(callFunc f args).run prog w=.ok (.enter f args) w)
  (A:Nat->Prop)(i:World)(j:InsR A i x v)(b:w.cell? ⟨c,0,none⟩=some (.func (.func f) #[] a))(g:∀w',Below w.heap.size w w'->Calls prog f (#[v]++a) w' (Said n w')) :
  Calls prog 223 #[v,.pointer (some ⟨c,0,none⟩)] w (Said (!n) w):=by
 obtain rfl:=j;have k:=Hd g;have m:c<w.heap.size:=World.block_lt_of_cell? w _ b;have d:∀o:Obj,(w.alloc o).cell? ⟨c,0,none⟩=some (.func (.func f) #[] a):=fun o=>((Yak (fun _=>False) w).alloc o).cell b id;clear b;clear g;go_enter func223,ntmps223
 go_wp2_with fail;refine(k.o _ ((Yab _ w).alloc (Yad _) _)).mono ?_;rintro e p⟨rfl,h⟩;clear d l;go_wp2;go_ret;exact⟨rfl,((Yab _ w).alloc (Yad _) _).trans (h.mono (by simp))⟩
theorem ZrZ {A:Nat->Prop}(i:Nat)(a:Array Value)(p:Ins->Bool)(l:List (Ins))(sv:Value)(w:World)(u:∀args w,(callFunc i args).run prog w=.ok (.enter i args) w)
  (m:Src 3 InsR A w sv l)(z:Zeg InsR A i a p l w)(h:l.length<=9223372036854775807) :
  Calls prog 191 #[sv,.func (.func i) #[] a] w (Said (l.all p) w):=by
 have y:=Ymf;rw[ZcO];have d:Hid (∀B:TypeId,Calls prog 222 #[sv,.func (.func 223) #[] #[.pointer (some ⟨w.heap.size,0,none⟩)]] (w.alloc (.cells #[.func (.func i) #[] a] B)) (Said (l.any fun x=>!p x) (w.alloc (.cells #[.func (.func i) #[] a] B)))):=Hd (fun B=>by
  have c:Below w.heap.size w (w.alloc (.cells #[.func (.func i) #[] a] B)):=(Yab _ w).alloc (Yad _) _;refine ZnD (A:=A) 223 _ (fun x=>!p x) l sv _ (Zac func223 (by kernel_rfl) rfl) (InsR.st.below m c) (fun k x v w' E j t=>?_) h;have r:w'.cell? ⟨w.heap.size,0,none⟩=some (.func (.func i) #[] a):=(Yae (S:=fun _=>False) j).cell (by simp) id;have b:Below w.heap.size w w':=c.trans (j.mono c.size);exact Zqa i a w.heap.size x _ (p x) w' u A w' t r (fun s g=>z k x _ s E (b.trans (g.mono b.size)) (InsR.st.keep t (Yae (S:=fun _=>False) g) (fun _ _=>id))))
 obtain⟨G,F,rfl⟩:=m.shape;generalize (l.any fun x=>!p x)=f at d⊢;generalize l.length=n at d⊢;clear u m z h;go_enter func191,ntmps191
 go_wp2_with fail;refine(d.o _).mono ?_;rintro e D⟨rfl,q⟩;have b:Below w.heap.size w D:=((Yab _ w).alloc (Yad _) _).trans (q.mono (by simp));have C:=Hd b;clear q b y;go_wp2;go_ret;exact⟨rfl,C.o⟩
def Zlm {α:Type}(R:Zao α)(A:Nat->Prop)(c:Nat)(a:Array Value)(b:α->List UInt8)(w:World):Prop:=
 ∀(x:α) (v:Value) (w':World),Below w.heap.size w w'->R A w' x v->Calls prog c (#[v]++a) w' (Zcc (b x) w')
theorem Zfv {α:Type}(a:α->List UInt8)(l:List α)(k:Nat)(x:α)(c:l[k]?=some x):Zf0 (l.map a) k = !((l.take k).any fun d=>a d==a x):=by
 unfold Zf0;have b:(l.map a).getD k []=a x:=by rw[List.getD,Yav,c];rfl
 rw[b,←List.map_take,List.any_map];rfl
theorem ZnV {A:Nat->Prop}(h:Nat)(a:Array Value)(d:List UInt8->List UInt8)(x v:List UInt8)(m l:Value)(k i:Nat)(w:World)(H:∀args w,(callFunc h args).run prog w=.ok (.enter h args) w)
  (q:StrR A w x m)(p:StrR A w v l)(D:w.cell? ⟨k,0,none⟩=some (.func (.func h) #[] a))(y:∀L u,m.cells[L]?=some u->w.cell? ⟨i,L,none⟩=some u)(t:Zlm StrR A h a d w) :
  Calls prog 187 #[l,.pointer (some ⟨k,0,none⟩),.pointer (some ⟨i,0,none⟩)] w (Said (d v==d x) w):=by
 have g:Hid (∀W,Below w.heap.size w W->Calls prog h (#[m]++a) W fun e w'=>e=.returned (.string (S (d x)))/\Below W.heap.size W w'):=Hd (fun W b=>(t x m W b (StrR.st.keep q (Yae (S:=fun _=>False) b) (fun _ _=>id))));have f:Hid (∀W,Below w.heap.size w W->Calls prog h (#[l]++a) W fun e w'=>e=.returned (.string (S (d v)))/\Below W.heap.size W w'):=Hd (fun W b=>(t v l W b (StrR.st.keep p (Yae (S:=fun _=>False) b) (fun _ _=>id))));clear t;obtain rfl:=q;obtain rfl:=p;have E:=Zaf (d x);have G:=Zaf (d v);generalize d x=K at g E⊢;generalize d v=J at f G⊢;have n:Below w.heap.size w w:=Yab _ _;have c:=Hd n;have F:Hid (∀W,Below w.heap.size w W->Calls prog h (#[.string (S x)]++a) W fun e w'=>e=.returned (.string (S K))/\Below w.heap.size w w'):=Hd (fun W b=>(g.o W (c.o.trans (b.mono c.o.size))).mono (fun _ _ C=>⟨C.1,b.trans (C.2.mono b.size)⟩));have I:Hid (∀W,Below w.heap.size w W->Calls prog h (#[.string (S v)]++a) W fun e w'=>e=.returned (.string (S J))/\Below w.heap.size w w'):=Hd (fun W b=>(f.o W (c.o.trans (b.mono c.o.size))).mono (fun _ _ C=>⟨C.1,b.trans (C.2.mono b.size)⟩));have j:Hid (∀W,Below w.heap.size w W->(fun W=>W.cell? ⟨k,0,none⟩=some (.func (.func h) #[] a)/\W.cell? ⟨i,0,none⟩=some (.string (S x))) W):=Hd (fun W b=>by
  have M:=Yae (S:=fun _=>False) b;have B:=Yae (S:=fun _=>False) (c.o.trans (b.mono c.o.size));exact⟨B.cell D id,B.cell (y 0 _ rfl) id⟩)
 clear D y n g f;go_enter func187,ntmps187
 go_upto_region 1 with fail;have z:=j.o _ (Yab _ w);obtain⟨O,P⟩:=z;first
 |(go_region_held (fun W=>W.cell? ⟨k,0,none⟩=some (.func (.func h) #[] a)/\W.cell? ⟨i,0,none⟩=some (.string (S x))) (first|with_reducible exact j.o _ r|with_reducible exact j.o _ s|with_reducible exact j.o _ ((Yab _ _).drew))
   (first|(with_reducible refine(I.o _ (by first|exact r|exact(Yab _ _).drew)).mono ?_;rintro e wA⟨rfl,s⟩)|(with_reducible refine(F.o _ (by first|exact s|exact(Yab _ _).drew)).mono ?_;rintro e N⟨rfl,r⟩)))
 |fail
 all_goals
  clear H;go_wp2;go_ret;first|exact⟨rfl,c.o.trans (r.mono c.o.size)⟩|exact⟨rfl,c.o.trans (s.mono c.o.size)⟩
theorem Zqr {A:Nat->Prop}(E:Nat)(c:Array Value)(d:List UInt8->List UInt8)(l:List (List UInt8))(sv:Value)(w:World)(ah:∀args w,(callFunc E args).run prog w=.ok (.enter E args) w)
  (ag:Src 1 StrR A w sv l)(aj:Zlm StrR A E c d w)(ad:l.length<=1048576) :
  Calls prog 122 #[sv,.func (.func E) #[] c] w (Said (ZbM (l.map d)) w):=by
 have aM:=Ymf;have aC:=Hd ah;have al:=Hd aj;have ab:=Hd ag;clear ah aj;rcases ag with⟨aS,aG,rfl,rfl⟩|⟨b,o,I,rfl,O,ao⟩
 ·go_enter func122,ntmps122;go_wp2
  go_loopw [9] (fun J wr=>J=.int .i64 0/\wr=w.alloc (.cells #[.func (.func E) #[] c] 94)) (fun _ _=>0)
  case atStart=>exact⟨rfl,rfl⟩
  case round=>
   obtain⟨rfl,rfl⟩:=hrel;go_wp2;go_ret;exact⟨rfl,(Yab _ w).alloc (Yad _) _⟩
 ·have ai:=Hd ao;have aE:=Hd O;obtain⟨n,M⟩:∃n,n=l.length:=⟨_,rfl⟩
  have av:n<=I:=by rw[M];exact O.2.2.1
  have ar:I<=9223372036854775807:=O.2.2.2;rw[←M]at ad ab⊢;have L:=Hd M;clear ao M O;obtain⟨au,ac⟩:∃au,au=ZbM (l.map d):=⟨_,rfl⟩
  rw[←ac];have aq:=Hd ac;clear ac;go_enter func122,ntmps122;go_wp2;have G:Box (w.alloc (.cells #[.func (.func E) #[] c] 94)) w.heap.size #[.func (.func E) #[] c] 94:=Box.new w _ _;have t:Below w.heap.size w (w.alloc (.cells #[.func (.func E) #[] c] 94)):=(Yab _ w).alloc (Yad _) _;generalize w.alloc (.cells #[.func (.func E) #[] c] 94)=P at G t⊢;have U:=Hd G;have q:=Hd t;clear G t;obtain⟨Q,y⟩:∃Q,Q=w.heap.size:=⟨_,rfl⟩
  rw[←y]at U⊢;have aH:=Hd y;clear y;go_loopw [9] (fun J wr=>∃k:Nat,k<=n/\J=.int .i64 k/\ZbG (l.map d) k=true/\Below P.heap.size P wr) (fun J _=>n-(intOf J).toNat)
  case atStart=>exact⟨0,Yao _,rfl,ZdG _,Yab _ _⟩
  case round=>
   obtain⟨k,aR,rfl,H,D⟩:=hrel;have am:=Hd H;have h:=Hd D;have m:Below w.heap.size w wr:=q.o.trans (D.mono q.o.size);have K:=Hd m;clear H D m;by_cases aI:k<n
   ·have Z:k<l.length:=by have:=L.o;omega
    obtain⟨x,R⟩:∃x,l[k]?=some x:=⟨_,Yaa Z⟩
    have F:=Yae (S:=fun _=>False) K.o;obtain⟨v,af,ap,aa⟩:=ai.o k x R;have ay:=Hd (StrR.st.keep af F (fun _ _=>id));obtain rfl:=af;have aD:wr.cell? ⟨b,o+k,none⟩=some (.string (S x)):=F.cell (a:=⟨b,o+k,none⟩) (by have aN:=aa 0 _ rfl;rw[YaH]at aN;exact aN) id;clear aa ap;have aQ:=Hd R;have Y:=Zfv d l k x R;have B:=ZdF (l.map d) k;rw[am.o,YaG,Y]at B;have r:=Hd B;clear R Z F Y B;have aL:(0:Int)<=k:=by omega
    have aJ:(k:Int)<(n:Int):=by omega
    have aK:(k:Int)<=(I:Int):=by omega
    go_wp2_with fail;have f:Below wr.heap.size wr (wr.alloc (.cells #[.string (S x)] 9)):=(Yab _ wr).alloc (Yad _) _;have V:Box (wr.alloc (.cells #[.string (S x)] 9)) wr.heap.size #[.string (S x)] 9:=Box.new wr _ _;have g:Below w.heap.size w (wr.alloc (.cells #[.string (S x)] 9)):=K.o.trans (f.mono K.o.size);have C:Box (wr.alloc (.cells #[.string (S x)] 9)) Q #[.func (.func E) #[] c] 94:=(U.o.below h.o).below f;have T:=StrR.st.below (Src.head aE.o ai.o k (by have:=L.o;omega)) g;refine(ZfL (A:=A) 187 _ (fun ak=>d ak==d x) (l.take k) _ _ (Zac func187 (by kernel_rfl) rfl) T (fun i ak ax w' aP s ae=>?_) (by rw[YaA];omega)).mono ?_
    ·have j:Below w.heap.size w w':=g.trans (s.mono g.size);exact ZnV E c d x ak _ ax Q wr.heap.size w' aC.o (StrR.st.keep ay.o (Yae (S:=fun _=>False) (f.trans (s.mono f.size))) (fun _ _=>id)) ae ((C.below s).cell 0 rfl) (fun aO u az=>(V.below s).cell aO az)
      (fun z aF W aA aB=>al.o z aF W (j.trans (aA.mono j.size)) aB)
    ·rintro e aw⟨rfl,m⟩;have j:Below P.heap.size P aw:=(h.o.trans (f.mono h.o.size)).trans (m.mono (h.o.trans (f.mono h.o.size)).size);have X:=Hd j;clear m j f V g C T aD;cases N:((l.take k).any fun ak=>d ak==d x)with
     |true=>
      rw[N]at r;have p:au=false:=by
       rw[aq.o];unfold ZbM;exact ZfN _ (k+1) _ (by rw[YaB];have:=L.o;omega) r.o
      subst p;clear N;go_wp2;go_ret;exact⟨rfl,q.o.trans (X.o.mono q.o.size)⟩
     |false=>
      rw[N]at r;clear N;go_wp2;go_roundw
      case rel=>exact⟨k+1,by omega,by go_num,r.o,X.o⟩
      case measure=>simp[intOf];omega
   ·obtain rfl:k=n:=by omega
    have p:au=true:=by
     rw[aq.o];unfold ZbM;rw[YaB,←L.o];exact am.o
    subst p;go_wp2;go_ret;exact⟨rfl,K.o⟩
theorem ZnT {A:Nat->Prop}(m:Nat)(c:Array Value)(g:Fld->List UInt8)(x b:Fld)(s r:Value)(q h:Nat)(w:World)(L:∀args w,(callFunc m args).run prog w=.ok (.enter m args) w)
  (y:FldR A w x s)(v:FldR A w b r)(H:w.cell? ⟨q,0,none⟩=some (.func (.func m) #[] c))(n:∀P u,s.cells[P]?=some u->w.cell? ⟨h,P,none⟩=some u)(C:Zlm FldR A m c g w) :
  Calls prog 188 #[r,.pointer (some ⟨q,0,none⟩),.pointer (some ⟨h,0,none⟩)] w (Said (g b==g x) w):=by
 have k:Hid (∀W,Below w.heap.size w W->Calls prog m (#[s]++c) W fun e w'=>e=.returned (.string (S (g x)))/\Below W.heap.size W w'):=Hd (fun W f=>(C x s W f (FldR.st.keep y (Yae (S:=fun _=>False) f) (fun _ _=>id))));have j:Hid (∀W,Below w.heap.size w W->Calls prog m (#[r]++c) W fun e w'=>e=.returned (.string (S (g b)))/\Below W.heap.size W w'):=Hd (fun W f=>(C b r W f (FldR.st.keep v (Yae (S:=fun _=>False) f) (fun _ _=>id))));clear C;obtain rfl:=y;obtain rfl:=v;have I:=Zaf (g x);have K:=Zaf (g b);generalize g x=N at k I⊢;generalize g b=M at j K⊢;have t:Below w.heap.size w (w.alloc (.cells #[.string (S b.name),.string (S b.kind),.bool b.tr] 82)):=(Yab _ w).alloc (Yad _) _;have d:=Hd t;have E:Hid (∀W,Below (w.alloc (.cells #[.string (S b.name),.string (S b.kind),.bool b.tr] 82)).heap.size (w.alloc (.cells #[.string (S b.name),.string (S b.kind),.bool b.tr] 82)) W->Calls prog m (#[.agg #[.string (S x.name),.string (S x.kind),.bool x.tr]]++c) W fun e w'=>e=.returned (.string (S N))/\Below (w.alloc (.cells #[.string (S b.name),.string (S b.kind),.bool b.tr] 82)).heap.size (w.alloc (.cells #[.string (S b.name),.string (S b.kind),.bool b.tr] 82)) w'):=Hd (fun W f=>(k.o W (d.o.trans (f.mono d.o.size))).mono (fun _ _ F=>⟨F.1,f.trans (F.2.mono f.size)⟩));have G:Hid (∀W,Below (w.alloc (.cells #[.string (S b.name),.string (S b.kind),.bool b.tr] 82)).heap.size (w.alloc (.cells #[.string (S b.name),.string (S b.kind),.bool b.tr] 82)) W->Calls prog m (#[.agg #[.string (S b.name),.string (S b.kind),.bool b.tr]]++c) W fun e w'=>e=.returned (.string (S M))/\Below (w.alloc (.cells #[.string (S b.name),.string (S b.kind),.bool b.tr] 82)).heap.size (w.alloc (.cells #[.string (S b.name),.string (S b.kind),.bool b.tr] 82)) w'):=Hd (fun W f=>(j.o W (d.o.trans (f.mono d.o.size))).mono (fun _ _ F=>⟨F.1,f.trans (F.2.mono f.size)⟩));have i:Hid (∀W,Below (w.alloc (.cells #[.string (S b.name),.string (S b.kind),.bool b.tr] 82)).heap.size (w.alloc (.cells #[.string (S b.name),.string (S b.kind),.bool b.tr] 82)) W->(fun W=>W.cell? ⟨q,0,none⟩=some (.func (.func m) #[] c)/\W.cell? ⟨h,0,none⟩=some (.string (S x.name))/\W.cell? ⟨h,1,none⟩=some (.string (S x.kind))/\W.cell? ⟨h,2,none⟩=some (.bool x.tr)/\W.cell? ⟨w.heap.size,0,none⟩=some (.string (S b.name))/\W.cell? ⟨w.heap.size,1,none⟩=some (.string (S b.kind))/\W.cell? ⟨w.heap.size,2,none⟩=some (.bool b.tr)) W):=Hd (fun W f=>by
  have l:=Yae (S:=fun _=>False) f;have p:=Yae (S:=fun _=>False) (d.o.trans (f.mono d.o.size));exact⟨p.cell H id,p.cell (n 0 _ rfl) id,p.cell (n 1 _ rfl) id,p.cell (n 2 _ rfl) id,l.cell (a:=⟨w.heap.size,0,none⟩) (by simp) id,l.cell (a:=⟨w.heap.size,1,none⟩) (by simp) id,l.cell (a:=⟨w.heap.size,2,none⟩) (by simp) id⟩)
 clear H n t k j;go_enter func188,ntmps188
 go_upto_region 1 with fail;generalize (w.alloc (.cells #[.string (S b.name),.string (S b.kind),.bool b.tr] 82))=J at E G i d⊢;generalize w.heap.size=O at i⊢;have D:=i.o _ (Yab _ J);obtain⟨X,Y,Z,V,R,U,Q⟩:=D;first
 |(go_region_held (fun W=>W.cell? ⟨q,0,none⟩=some (.func (.func m) #[] c)/\W.cell? ⟨h,0,none⟩=some (.string (S x.name))/\W.cell? ⟨h,1,none⟩=some (.string (S x.kind))/\W.cell? ⟨h,2,none⟩=some (.bool x.tr)/\W.cell? ⟨O,0,none⟩=some (.string (S b.name))/\W.cell? ⟨O,1,none⟩=some (.string (S b.kind))/\W.cell? ⟨O,2,none⟩=some (.bool b.tr)) (first|with_reducible exact i.o _ z|with_reducible exact i.o _ B|with_reducible exact i.o _ ((Yab _ _).drew))
   (first|(with_reducible refine(G.o _ (by first|exact z|exact(Yab _ _).drew)).mono ?_;rintro e wA⟨rfl,B⟩)|(with_reducible refine(E.o _ (by first|exact B|exact(Yab _ _).drew)).mono ?_;rintro e T⟨rfl,z⟩)))
 |fail
 all_goals
  clear L;go_wp2;go_ret;first|exact⟨rfl,d.o.trans (z.mono d.o.size)⟩|exact⟨rfl,d.o.trans (B.mono d.o.size)⟩
theorem Zqp {A:Nat->Prop}(G:Nat)(c:Array Value)(d:Fld->List UInt8)(l:List (Fld))(sv:Value)(w:World)(ah:∀args w,(callFunc G args).run prog w=.ok (.enter G args) w)
  (ag:Src 3 FldR A w sv l)(aj:Zlm FldR A G c d w)(ad:l.length<=1048576) :
  Calls prog 124 #[sv,.func (.func G) #[] c] w (Said (ZbM (l.map d)) w):=by
 have aO:=Ymf;have aE:=Hd ah;have al:=Hd aj;have ab:=Hd ag;clear ah aj;rcases ag with⟨aT,aI,rfl,rfl⟩|⟨b,o,J,rfl,P,ao⟩
 ·go_enter func124,ntmps124;go_wp2
  go_loopw [9] (fun K wr=>K=.int .i64 0/\wr=w.alloc (.cells #[.func (.func G) #[] c] 136)) (fun _ _=>0)
  case atStart=>exact⟨rfl,rfl⟩
  case round=>
   obtain⟨rfl,rfl⟩:=hrel;go_wp2;go_ret;exact⟨rfl,(Yab _ w).alloc (Yad _) _⟩
 ·have ai:=Hd ao;have aG:=Hd P;obtain⟨n,N⟩:∃n,n=l.length:=⟨_,rfl⟩
  have av:n<=J:=by rw[N];exact P.2.2.1
  have ar:J<=9223372036854775807:=P.2.2.2;rw[←N]at ad ab⊢;have M:=Hd N;clear ao N P;obtain⟨au,ac⟩:∃au,au=ZbM (l.map d):=⟨_,rfl⟩
  rw[←ac];have aq:=Hd ac;clear ac;go_enter func124,ntmps124;go_wp2;have H:Box (w.alloc (.cells #[.func (.func G) #[] c] 136)) w.heap.size #[.func (.func G) #[] c] 136:=Box.new w _ _;have B:Below w.heap.size w (w.alloc (.cells #[.func (.func G) #[] c] 136)):=(Yab _ w).alloc (Yad _) _;generalize w.alloc (.cells #[.func (.func G) #[] c] 136)=Q at H B⊢;have V:=Hd H;have r:=Hd B;clear H B;obtain⟨R,C⟩:∃R,R=w.heap.size:=⟨_,rfl⟩
  rw[←C]at V⊢;have aJ:=Hd C;clear C;go_loopw [9] (fun K wr=>∃k:Nat,k<=n/\K=.int .i64 k/\ZbG (l.map d) k=true/\Below Q.heap.size Q wr) (fun K _=>n-(intOf K).toNat)
  case atStart=>exact⟨0,Yao _,rfl,ZdG _,Yab _ _⟩
  case round=>
   obtain⟨k,aS,rfl,I,F⟩:=hrel;have am:=Hd I;have h:=Hd F;have p:Below w.heap.size w wr:=r.o.trans (F.mono r.o.size);have L:=Hd p;clear I F p;by_cases aK:k<n
   ·have aa:k<l.length:=by have:=M.o;omega
    obtain⟨x,T⟩:∃x,l[k]?=some x:=⟨_,Yaa aa⟩
    have j:=Yae (S:=fun _=>False) L.o;obtain⟨v,af,ap,y⟩:=ai.o k x T;have az:=Hd (FldR.st.keep af j (fun _ _=>id));obtain rfl:=af;have aF:wr.cell? ⟨b,o+k*3,none⟩=some (.string (S x.name)):=j.cell (a:=⟨b,o+k*3,none⟩) (y 0 _ rfl) id;have aA:wr.cell? ⟨b,o+k*3+1,none⟩=some (.string (S x.kind)):=j.cell (a:=⟨b,o+k*3+1,none⟩) (y 1 _ rfl) id;have ax:wr.cell? ⟨b,o+k*3+2,none⟩=some (.bool x.tr):=j.cell (a:=⟨b,o+k*3+2,none⟩) (y 2 _ rfl) id;clear y ap;have aR:=Hd T;have Z:=Zfv d l k x T;have D:=ZdF (l.map d) k;rw[am.o,YaG,Z]at D;have s:=Hd D;clear T aa j Z D;have aN:(0:Int)<=k:=by omega
    have aL:(k:Int)<(n:Int):=by omega
    have aM:(k:Int)<=(J:Int):=by omega
    go_wp2_with fail;have f:Below wr.heap.size wr (wr.alloc (.cells #[.string (S x.name),.string (S x.kind),.bool x.tr] 82)):=(Yab _ wr).alloc (Yad _) _;have X:Box (wr.alloc (.cells #[.string (S x.name),.string (S x.kind),.bool x.tr] 82)) wr.heap.size #[.string (S x.name),.string (S x.kind),.bool x.tr] 82:=Box.new wr _ _;have g:Below w.heap.size w (wr.alloc (.cells #[.string (S x.name),.string (S x.kind),.bool x.tr] 82)):=L.o.trans (f.mono L.o.size);have E:Box (wr.alloc (.cells #[.string (S x.name),.string (S x.kind),.bool x.tr] 82)) R #[.func (.func G) #[] c] 136:=(V.o.below h.o).below f;have U:=FldR.st.below (Src.head aG.o ai.o k (by have:=M.o;omega)) g;refine(ZdT (A:=A) 188 _ (fun ak=>d ak==d x) (l.take k) _ _ (Zac func188 (by kernel_rfl) rfl) U (fun i ak ay w' aQ t ae=>?_) (by rw[YaA];omega)).mono ?_
    ·have m:Below w.heap.size w w':=g.trans (t.mono g.size);exact ZnT G c d x ak _ ay R wr.heap.size w' aE.o (FldR.st.keep az.o (Yae (S:=fun _=>False) (f.trans (t.mono f.size))) (fun _ _=>id)) ae ((E.below t).cell 0 rfl) (fun aP u aB=>(X.below t).cell aP aB)
      (fun z aH W aC aD=>al.o z aH W (m.trans (aC.mono m.size)) aD)
    ·rintro e aw⟨rfl,p⟩;have m:Below Q.heap.size Q aw:=(h.o.trans (f.mono h.o.size)).trans (p.mono (h.o.trans (f.mono h.o.size)).size);have Y:=Hd m;clear p m f X g E U aF aA ax;cases O:((l.take k).any fun ak=>d ak==d x)with
     |true=>
      rw[O]at s;have q:au=false:=by
       rw[aq.o];unfold ZbM;exact ZfN _ (k+1) _ (by rw[YaB];have:=M.o;omega) s.o
      subst q;clear O;go_wp2;go_ret;exact⟨rfl,r.o.trans (Y.o.mono r.o.size)⟩
     |false=>
      rw[O]at s;clear O;go_wp2;go_roundw
      case rel=>exact⟨k+1,by omega,by go_num,s.o,Y.o⟩
      case measure=>simp[intOf];omega
   ·obtain rfl:k=n:=by omega
    have q:au=true:=by
     rw[aq.o];unfold ZbM;rw[YaB,←M.o];exact am.o
    subst q;go_wp2;go_ret;exact⟨rfl,L.o⟩
