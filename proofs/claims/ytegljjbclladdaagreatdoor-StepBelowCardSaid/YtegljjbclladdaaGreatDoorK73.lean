/- laws -/
import Derived.Test.YtegljjbclladdaaGreatDoorK62
import Derived.Test.YtegljjbclladdaaGreatDoorK72
import Derived.Deep.DeepWitnessRowRef
import Derived.Deep.Slices
import Derived.Lib.LaidIn
import Derived.Lib.LaidU8T
import Derived.OpenShut
import Derived.ProofKit
import Derived.Shelf.LaysM
import Derived.Shelf.Strings.BuilderK
import Derived.Test.YtegljjbclladdaaGreatDoorCards
import Derived.Test.YtegljjbclladdaaGreatDoorTie
set_option maxRecDepth 100000
set_option maxHeartbeats 16000000
namespace Go.Proofs.YtegljjbclladdaaGreatDoor
open Go.RowKit Proofs.Tryz
structure Shp where
 seen:Bool
 stk:List (List UInt8)
 loc:List (List UInt8)
def Shp.zero:Shp:=⟨false,[],[]⟩
def ZbH (es:List Ent)(a b:List (List UInt8)):List (List UInt8):=List.zipWith (ZgB es) a b
def Zk5 (l:List (List UInt8)):Bool:=l.any fun a=>a==[]
def ZiY (es:List Ent)(a b:Shp):Shp×Nat:=
 if a.seen=false then(b,0)else if b.seen=false then(a,0)else
 if a.stk.length=b.stk.length/\a.loc.length=b.loc.length then
  if Zk5 (ZbH es a.stk b.stk)=true then(Shp.zero,75)else(⟨true,ZbH es a.stk b.stk,ZbH es a.loc b.loc⟩,0)
 else(Shp.zero,75)
theorem Zf3 {es:List Ent}{a b:List (List UInt8)}(c:a.length=b.length):(ZbH es a b).length=a.length:=by unfold ZbH;rw[List.length_zipWith];omega
theorem ZqK {es:List Ent}{a b:List (List UInt8)}{k:Nat}{x f:List UInt8}(d:a[k]?=some x)(c:b[k]?=some f):(ZbH es a b)[k]?=some (ZgB es x f):=by
 unfold ZbH;rw[List.getElem?_zipWith,d,c]
def ShpR:Zao Shp:=fun A w s v=>∃a b,v=.agg #[.bool s.seen,a,b]/\Src 1 StrR A w a s.stk/\Src 1 StrR A w b s.loc
theorem ShpR.st:Stays ShpR:=⟨fun⟨a,b,h,d,f⟩ g c=>⟨a,b,h,StrR.st.src d g c,StrR.st.src f g c⟩,fun⟨a,b,h,d,f⟩ c=>⟨a,b,h,StrR.st.srcMono d c,StrR.st.srcMono f c⟩⟩
theorem ShpR.below {A:Nat->Prop}{w w':World}{s:Shp}{v:Value}(b:ShpR A w s v)(a:Below w.heap.size w w'):ShpR A w' s v:=ShpR.st.keep b (Yae (S:=fun _=>False) a) (fun _ _=>id)
def Shp.Fit (s:Shp):Prop:=s.stk.length<=9223372036854775807/\s.loc.length<=9223372036854775807
def Shp.eqB (a b:Shp):Bool:=(a.seen==b.seen)&&(samB ZbD a.stk b.stk&&samB ZbD a.loc b.loc)
theorem Zje {ae ab:Nat->Prop}(c b:List (List UInt8))(M I:Value)(w:World)(t:Src 1 StrR ae w M c)(l:Src 1 StrR ab w I b)(v:c.length<=9223372036854775807)(A:b.length<=9223372036854775807) :
  Calls prog 20 #[M,I] w (Said (samB ZbD c b) w):=by
 obtain⟨n,g⟩:∃n,n=c.length:=⟨_,rfl⟩
 obtain⟨m,f⟩:∃m,m=b.length:=⟨_,rfl⟩
 obtain⟨s,r,rfl⟩:∃s r,M=.slice s n r:=by rw[g];exact t.shape
 obtain⟨ah,ax,rfl⟩:∃s r,I=.slice s m r:=by rw[f];exact l.shape
 have N:=Hd g;have V:=Hd f;have ao:n<=9223372036854775807:=by omega
 have ai:m<=9223372036854775807:=by omega
 by_cases j:n=m
 case neg=>
  have O:samB ZbD c b=false:=by unfold samB;rw[Yan (by rw[←g,←f];exact j),YaQ]
  rw[O];have ay:((n:Int) != (m:Int))=true:=by rw[bne_iff_ne];omega
  clear t l g f j O v A;go_enter func20,ntmps20;go_wp2;go_ret;exact⟨rfl,Yab _ _⟩
 subst j;have G:Hid (samB ZbD c b=(c.zip b).all fun B=>ZbD B.1 B.2):=Hd (by unfold samB;rw[Yas (by rw[←g,←f]),YaG]);obtain⟨R,Q⟩:∃R,R=samB ZbD c b:=⟨_,rfl⟩
 rw[←Q]at G⊢;clear Q;have af:=Hd (Src.elem t);have Y:=Hd (Src.elem l);clear t l g f v A;go_enter func20,ntmps20;go_wp2
 go_loopw [5] (fun K wr=>∃k:Nat,k<=n/\K=.int .i64 k/\Zgl ZbD c b k=true/\Below w.heap.size w wr) (fun K _=>n-(intOf K).toNat)
 case atStart=>exact⟨0,Yao _,rfl,by simp[Zgl],Yab _ _⟩
 case round=>
  obtain⟨k,av,rfl,h,E⟩:=hrel;have U:=Hd h;have q:=Hd E;clear h E;by_cases al:k<n
  ·have z:k<c.length:=by have:=N.o;omega
   have D:k<b.length:=by have:=V.o;omega
   obtain⟨x,L⟩:∃x,c[k]?=some x:=⟨_,Yaa z⟩
   obtain⟨F,J⟩:∃F,b[k]?=some F:=⟨_,Yaa D⟩
   have i:=Yae (S:=fun _=>False) q.o;obtain⟨aa,ad,ar,rfl,P,_,u⟩:=af.o k x L;obtain⟨Z,X,aw,rfl,W,_,C⟩:=Y.o k F J;obtain rfl:=P;obtain rfl:=W;have am:=i.cell (a:=⟨aa,ad+k,none⟩) (by have B:=u 0 _ rfl;rw[YaH]at B;exact B) id;have aj:=i.cell (a:=⟨Z,X+k,none⟩) (by have B:=C 0 _ rfl;rw[YaH]at B;exact B) id;have aq:=Zaf x;have ap:=Zaf F;have d:=Hd (Zg2 ZbD c b k x F L J);rw[U.o,YaG]at d;have ag:(0:Int)<=k:=by omega
   have ak:(k:Int)<(n:Int):=by omega
   clear L J z D i u C;have y:ZbD x F=(x==F):=rfl;rw[y]at d;clear y;generalize au:(x==F)=p at d;cases p
   case false=>
    obtain rfl:R=false:=by rw[G.o];exact Zk8 ZbD c b (k+1) d.o
    have T:=Hd (q.o);go_wp2_with (go_quiet (fail))
    go_ret;exact⟨rfl,ZaP T.o _⟩
   go_wp2_with (go_quiet (fail))
   go_roundw
   case rel=>exact⟨k+1,by omega,by go_num,d.o,ZaP q.o _⟩
   case measure=>simp[intOf];omega
  ·obtain rfl:n=k:=by omega
   have H:R=true:=by
    have ac:=U.o;unfold Zgl at ac;rw[Yaz (by rw[List.length_zip,←N.o,←V.o];omega)]at ac;rw[G.o];exact ac
   subst H;go_wp2;go_ret;exact⟨rfl,q.o⟩
theorem Zec {X T:Nat->Prop}(a b:Shp)(u v:Value)(w:World)(U:ShpR X w a u)(P:ShpR T w b v)(J:a.Fit)(G:b.Fit) :
  Calls prog 10 #[u,v] w (Said (a.eqB b) w):=by
 obtain⟨c,l1,rfl,s,t⟩:=U;obtain⟨K,l2,rfl,z,y⟩:=P;obtain⟨h,i,rfl⟩:=s.shape;obtain⟨d,f,rfl⟩:=t.shape;obtain⟨m,p,rfl⟩:=z.shape;obtain⟨k,j,rfl⟩:=y.shape;have C:Hid (∀W,Below w.heap.size w W->Calls prog 20 #[.slice h a.stk.length i,.slice m b.stk.length p] W (Said (samB ZbD a.stk b.stk) W)):=Hd (fun W r=>
  Zje a.stk b.stk _ _ W (StrR.st.below s r) (StrR.st.below z r) J.1 G.1)
 have B:Hid (∀W,Below w.heap.size w W->Calls prog 20 #[.slice d a.loc.length f,.slice k b.loc.length j] W (Said (samB ZbD a.loc b.loc) W)):=Hd (fun W r=>
  Zje a.loc b.loc _ _ W (StrR.st.below t r) (StrR.st.below y r) J.2 G.2)
 obtain⟨R,I⟩:∃R,R=a.eqB b:=⟨_,rfl⟩
 rw[←I];have g:Hid (R=((a.seen==b.seen)&&(samB ZbD a.stk b.stk&&samB ZbD a.loc b.loc))):=Hd I;clear I s z t y J G;generalize samB ZbD a.stk b.stk=Q at C g;generalize samB ZbD a.loc b.loc=V at B g;generalize a.seen=c at g⊢;generalize b.seen=K at g⊢;by_cases l:c=K
 case neg=>
  have O:R=false:=by
   rw[g.o,Yah.2 l,YaQ]
  subst O;clear g C B;cases c<;>cases K<;>first
   |exact absurd rfl l
   |(go_enter func10,ntmps10;go_wp2;go_ret;exact⟨rfl,Zaa (Zaa (Yab _ _) _) _⟩)
 subst l;rw[Ybi,YaG]at g;have N:=Hd ((Box.new w #[.bool c,.slice h a.stk.length i,.slice d a.loc.length f] 30).below (Zaa (Yab _ _) (.cells #[.bool c,.slice m b.stk.length p,.slice k b.loc.length j] 30)));have A:=Box.new (w.alloc (.cells #[.bool c,.slice h a.stk.length i,.slice d a.loc.length f] 30)) #[.bool c,.slice m b.stk.length p,.slice k b.loc.length j] 30;rw[show(w.alloc (.cells #[.bool c,.slice h a.stk.length i,.slice d a.loc.length f] 30)).heap.size=w.heap.size+1 by simp]at A;have L:=Hd A;have x:Hid (Below w.heap.size w ((w.alloc (.cells #[.bool c,.slice h a.stk.length i,.slice d a.loc.length f] 30)).alloc (.cells #[.bool c,.slice m b.stk.length p,.slice k b.loc.length j] 30))):=Hd (Zaa (Zaa (Yab _ _) _) _);have F:=Hd (C.o _ x.o);clear A C;cases c<;>(
  go_enter func10,ntmps10
  go_wp2_with fail;with_reducible refine F.o.mono ?_
  rintro e H⟨rfl,n⟩;have q:=Hd (x.o.trans (n.mono x.o.size));have Z:H.cell? ⟨w.heap.size,2,none⟩=some (.slice d a.loc.length f):=(N.o.below n).cell 2 rfl;have Y:H.cell? ⟨w.heap.size+1,2,none⟩=some (.slice k b.loc.length j):=(L.o.below n).cell 2 rfl;have D:=Hd (B.o H q.o);clear n B F;cases Q with
  |false=>
   obtain rfl:R=false:=g.o;go_wp2;go_ret;exact⟨rfl,q.o⟩
  |true=>
   obtain rfl:R=V:=by have:=g.o;rwa [YaG]at this
   go_wp2_with fail;with_reducible refine D.o.mono ?_
   rintro e w2⟨rfl,E⟩;have M:=Hd (q.o.trans (E.mono q.o.size));clear E D;go_wp2;go_ret;exact⟨rfl,M.o⟩)
theorem Zg6 {ae ab:Nat->Prop}(c b:List (List UInt8))(M I:Value)(w:World)(t:Src 1 StrR ae w M c)(l:Src 1 StrR ab w I b)(v:c.length<=9223372036854775807)(A:b.length<=9223372036854775807) :
  Calls prog 40 #[M,I] w (Said (samB ZbD c b) w):=by
 obtain⟨n,g⟩:∃n,n=c.length:=⟨_,rfl⟩
 obtain⟨m,f⟩:∃m,m=b.length:=⟨_,rfl⟩
 obtain⟨s,r,rfl⟩:∃s r,M=.slice s n r:=by rw[g];exact t.shape
 obtain⟨ah,ax,rfl⟩:∃s r,I=.slice s m r:=by rw[f];exact l.shape
 have N:=Hd g;have V:=Hd f;have ao:n<=9223372036854775807:=by omega
 have ai:m<=9223372036854775807:=by omega
 by_cases j:n=m
 case neg=>
  have O:samB ZbD c b=false:=by unfold samB;rw[Yan (by rw[←g,←f];exact j),YaQ]
  rw[O];have ay:((n:Int) != (m:Int))=true:=by rw[bne_iff_ne];omega
  clear t l g f j O v A;go_enter func40,ntmps40;go_wp2;go_ret;exact⟨rfl,Yab _ _⟩
 subst j;have G:Hid (samB ZbD c b=(c.zip b).all fun B=>ZbD B.1 B.2):=Hd (by unfold samB;rw[Yas (by rw[←g,←f]),YaG]);obtain⟨R,Q⟩:∃R,R=samB ZbD c b:=⟨_,rfl⟩
 rw[←Q]at G⊢;clear Q;have af:=Hd (Src.elem t);have Y:=Hd (Src.elem l);clear t l g f v A;go_enter func40,ntmps40;go_wp2
 go_loopw [13] (fun K wr=>∃k:Nat,k<=n/\K=.int .i64 k/\Zgl ZbD c b k=true/\Below w.heap.size w wr) (fun K _=>n-(intOf K).toNat)
 case atStart=>exact⟨0,Yao _,rfl,by simp[Zgl],Yab _ _⟩
 case round=>
  obtain⟨k,av,rfl,h,E⟩:=hrel;have U:=Hd h;have q:=Hd E;clear h E;by_cases al:k<n
  ·have z:k<c.length:=by have:=N.o;omega
   have D:k<b.length:=by have:=V.o;omega
   obtain⟨x,L⟩:∃x,c[k]?=some x:=⟨_,Yaa z⟩
   obtain⟨F,J⟩:∃F,b[k]?=some F:=⟨_,Yaa D⟩
   have i:=Yae (S:=fun _=>False) q.o;obtain⟨aa,ad,ar,rfl,P,_,u⟩:=af.o k x L;obtain⟨Z,X,aw,rfl,W,_,C⟩:=Y.o k F J;obtain rfl:=P;obtain rfl:=W;have am:=i.cell (a:=⟨aa,ad+k,none⟩) (by have B:=u 0 _ rfl;rw[YaH]at B;exact B) id;have aj:=i.cell (a:=⟨Z,X+k,none⟩) (by have B:=C 0 _ rfl;rw[YaH]at B;exact B) id;have aq:=Zaf x;have ap:=Zaf F;have d:=Hd (Zg2 ZbD c b k x F L J);rw[U.o,YaG]at d;have ag:(0:Int)<=k:=by omega
   have ak:(k:Int)<(n:Int):=by omega
   clear L J z D i u C;have y:ZbD x F=(x==F):=rfl;rw[y]at d;clear y;generalize au:(x==F)=p at d;cases p
   case false=>
    obtain rfl:R=false:=by rw[G.o];exact Zk8 ZbD c b (k+1) d.o
    have T:=Hd (q.o);go_wp2_with (go_quiet (fail))
    go_ret;exact⟨rfl,ZaP T.o _⟩
   go_wp2_with (go_quiet (fail))
   go_roundw
   case rel=>exact⟨k+1,by omega,by go_num,d.o,ZaP q.o _⟩
   case measure=>simp[intOf];omega
  ·obtain rfl:n=k:=by omega
   have H:R=true:=by
    have ac:=U.o;unfold Zgl at ac;rw[Yaz (by rw[List.length_zip,←N.o,←V.o];omega)]at ac;rw[G.o];exact ac
   subst H;go_wp2;go_ret;exact⟨rfl,q.o⟩
theorem ZpB {X T:Nat->Prop}(a b:Shp)(u v:Value)(w:World)(U:ShpR X w a u)(P:ShpR T w b v)(J:a.Fit)(G:b.Fit) :
  Calls prog 15 #[u,v] w (Said (a.eqB b) w):=by
 obtain⟨c,l1,rfl,s,t⟩:=U;obtain⟨K,l2,rfl,z,y⟩:=P;obtain⟨h,i,rfl⟩:=s.shape;obtain⟨d,f,rfl⟩:=t.shape;obtain⟨m,p,rfl⟩:=z.shape;obtain⟨k,j,rfl⟩:=y.shape;have C:Hid (∀W,Below w.heap.size w W->Calls prog 40 #[.slice h a.stk.length i,.slice m b.stk.length p] W (Said (samB ZbD a.stk b.stk) W)):=Hd (fun W r=>
  Zg6 a.stk b.stk _ _ W (StrR.st.below s r) (StrR.st.below z r) J.1 G.1)
 have B:Hid (∀W,Below w.heap.size w W->Calls prog 40 #[.slice d a.loc.length f,.slice k b.loc.length j] W (Said (samB ZbD a.loc b.loc) W)):=Hd (fun W r=>
  Zg6 a.loc b.loc _ _ W (StrR.st.below t r) (StrR.st.below y r) J.2 G.2)
 obtain⟨R,I⟩:∃R,R=a.eqB b:=⟨_,rfl⟩
 rw[←I];have g:Hid (R=((a.seen==b.seen)&&(samB ZbD a.stk b.stk&&samB ZbD a.loc b.loc))):=Hd I;clear I s z t y J G;generalize samB ZbD a.stk b.stk=Q at C g;generalize samB ZbD a.loc b.loc=V at B g;generalize a.seen=c at g⊢;generalize b.seen=K at g⊢;by_cases l:c=K
 case neg=>
  have O:R=false:=by
   rw[g.o,Yah.2 l,YaQ]
  subst O;clear g C B;cases c<;>cases K<;>first
   |exact absurd rfl l
   |(go_enter func15,ntmps15;go_wp2;go_ret;exact⟨rfl,Zaa (Zaa (Yab _ _) _) _⟩)
 subst l;rw[Ybi,YaG]at g;have N:=Hd ((Box.new w #[.bool c,.slice h a.stk.length i,.slice d a.loc.length f] 30).below (Zaa (Yab _ _) (.cells #[.bool c,.slice m b.stk.length p,.slice k b.loc.length j] 30)));have A:=Box.new (w.alloc (.cells #[.bool c,.slice h a.stk.length i,.slice d a.loc.length f] 30)) #[.bool c,.slice m b.stk.length p,.slice k b.loc.length j] 30;rw[show(w.alloc (.cells #[.bool c,.slice h a.stk.length i,.slice d a.loc.length f] 30)).heap.size=w.heap.size+1 by simp]at A;have L:=Hd A;have x:Hid (Below w.heap.size w ((w.alloc (.cells #[.bool c,.slice h a.stk.length i,.slice d a.loc.length f] 30)).alloc (.cells #[.bool c,.slice m b.stk.length p,.slice k b.loc.length j] 30))):=Hd (Zaa (Zaa (Yab _ _) _) _);have F:=Hd (C.o _ x.o);clear A C;cases c<;>(
  go_enter func15,ntmps15
  go_wp2_with fail;with_reducible refine F.o.mono ?_
  rintro e H⟨rfl,n⟩;have q:=Hd (x.o.trans (n.mono x.o.size));have Z:H.cell? ⟨w.heap.size,2,none⟩=some (.slice d a.loc.length f):=(N.o.below n).cell 2 rfl;have Y:H.cell? ⟨w.heap.size+1,2,none⟩=some (.slice k b.loc.length j):=(L.o.below n).cell 2 rfl;have D:=Hd (B.o H q.o);clear n B F;cases Q with
  |false=>
   obtain rfl:R=false:=g.o;go_wp2;go_ret;exact⟨rfl,q.o⟩
  |true=>
   obtain rfl:R=V:=by have:=g.o;rwa [YaG]at this
   go_wp2_with fail;with_reducible refine D.o.mono ?_
   rintro e w2⟨rfl,E⟩;have M:=Hd (q.o.trans (E.mono q.o.size));clear E D;go_wp2;go_ret;exact⟨rfl,M.o⟩)
def Zhd (l:List (List UInt8))(w:World)(e:Ending)(w':World):Prop:=∃v,e=.returned v/\KR w.heap.size w' v l/\Below w.heap.size w w'
theorem ZnB {A:Nat->Prop}{w:World}{sv:Value}{l:List (List UInt8)}(ty:TypeId)(F:Src 1 StrR A w sv l)(H:l.length<=1048576) :
  ∃h w',(Builtin.append_ #[22,22] ty #[.slice (some ⟨w.heap.size,0,none⟩) 0 0,sv]).run prog (w.alloc (.cells #[] 9))=.ok h w'/\KR w.heap.size w' h l/\Below w.heap.size w w':=by
 obtain⟨j,i,r,s,n⟩:=info_parts ZcS;have d:Below w.heap.size w (w.alloc (.cells #[] 9)):=(Yab _ w).alloc (Yad _) _;have f:KR w.heap.size (w.alloc (.cells #[] 9)) (.slice (some ⟨w.heap.size,0,none⟩) 0 0) []:=KRF.empty _ _ _ _ (Yad _);rcases F with⟨D,z,rfl,rfl⟩|⟨b,o,p,rfl,_,C⟩
 ·exact⟨_,_,Zbf _ 22 ty 9 j 1 underlying22 i _ 0 [] (Zdb f (Yao _)) D z,f,d⟩
 ·obtain⟨h,w',B,q,E⟩:=KRF.append (P:=prog) (b:=b) (o:=o) (m:=l.length) (c:=p) (xs:=l) ZeY 22 ty j _ 16 underlying22 i r s n rfl f d.size rfl (fun k x f=>by
   obtain⟨v,y,_,t⟩:=C k x f;obtain rfl:=y;have G:=t 0 _ rfl;rw[YaH]at G;exact(Yae (S:=fun _=>False) d).cell (a:=⟨b,o+k,none⟩) G id) (by simp;omega) (by simp;omega)
  rw[Ybq]at q;exact⟨h,w',B,q,d.trans (E.only.below d.size (fun g u=>(f.own g u).1))⟩
theorem Zkq {A:Nat->Prop}(l:List (List UInt8))(sv:Value)(w:World)(f:Src 1 StrR A w sv l)(h:l.length<=1048576):Calls prog 73 #[sv] w (Zhd l w):=by
 have d:=Hd (fun ty=>ZnB ty f h);obtain⟨t,p,rfl⟩:=f.shape;cases t with
 |none=>
  have j:l=[]:=by
   rcases f with⟨_,_,_,u⟩|⟨b,o,c,u,_⟩
   ·exact u
   ·simp at u
  subst j;have r:=fun n c=>Lib.run_eql_slice_nil (P:=prog) w 22 9 none n c 0 0 underlying22;clear d f h;go_enter func73,ntmps73;go_wp2;go_ret;exact⟨_,rfl,KRF.nil _ _ _ _,Yab _ _⟩
 |some a=>
  generalize i:l.length=q at d⊢;have r:=Lib.run_eql_slice_nil (P:=prog) w 22 9 (some a) q p 0 0 underlying22;clear i;clear f h;go_enter func73,ntmps73
  go_wp2_with (at_builtin;(obtain⟨s,w',g,m,k⟩:=d.o _;refine Zak rfl _ _ 22 rfl _ _ s w' rfl rfl g ?_))
  go_ret;exact⟨_,rfl,m,k⟩
theorem Zd8 {A:Nat->Prop}(l:List (List UInt8))(sv:Value)(w:World)(y:Src 1 StrR A w sv l)(J:l.length<=1048576)(h:∀x∈l,x.length<=281474976710656):Calls prog 18 #[sv] w (Zhd l w):=by
 have d:=Hd (Zkq l sv w y J);have H:Hid (∀x W,x∈l->Calls prog 74 #[.string (S x)] W fun e w'=>e=.returned (.string (S x))/\Below W.heap.size W w'):=Hd (fun x W i=>ZaE (S x) W (by rw[Zat];exact h x i));unfold Zhd at d⊢;obtain⟨Y,X,rfl⟩:=y.shape;obtain⟨n,s⟩:∃n,n=l.length:=⟨_,rfl⟩
 have C:=Hd s;rw[←s]at d J⊢;clear y s h;go_enter func18,ntmps18
 go_wp2_with fail;with_reducible refine d.o.mono ?_
 rintro e j⟨V,rfl,f,z⟩;have u:=Hd f;have B:=Hd z;obtain⟨O,c,rfl⟩:=f.shape;have K:=Hd (Src.elem (f.src Za2));rw[←C.o]at u⊢;clear f z d;go_wp2;go_loopw [9] (fun t wr=>∃k:Nat,k<=n/\t=.int .i64 k/\Below j.heap.size j wr) (fun t _=>n-(intOf t).toNat)
 case atStart=>exact⟨0,Yao _,rfl,Yab _ _⟩
 case round=>
  obtain⟨k,f,rfl,r⟩:=hrel;have b:=Hd r;clear r;by_cases G:k<n
  ·obtain⟨x,i⟩:∃x,l[k]?=some x:=⟨_,Yaa (by rw[←C.o];exact G)⟩
   obtain⟨g,o,v,rfl,L,_,q⟩:=K.o k x i;obtain rfl:=L;have d:Hid (∀W,Below j.heap.size j W->W.cell? ⟨g,o+k,none⟩=some (.string (S x))/\W.frozen? ⟨g,o+k,none⟩=false):=Hd (fun W D=>
    ⟨(Yae (S:=fun _=>False) D).cell (a:=⟨g,o+k,none⟩) (by have T:=q 0 _ rfl;rw[YaH]at T;exact T) id,(u.o.below D).free g o _ _ rfl _⟩)
   have E:=Hd (H.o x wr (Yaf i));have Q:(0:Int)<=(k:Int):=by omega
   have R:(k:Int)<(n:Int):=by omega
   obtain⟨M,_⟩:=d.o wr b.o;clear q i;go_wp2_with fail;with_reducible refine E.o.mono ?_
   rintro e w2⟨rfl,p⟩;have m:=Hd (b.o.trans (p.mono b.o.size));obtain⟨P,U⟩:=d.o w2 m.o;have N:=Hd (Zdd P);clear p M E;go_wp2;go_roundw
   case rel=>
    rw[N.o];exact⟨k+1,by omega,by go_num,m.o⟩
   case measure=>simp[intOf];omega
  ·obtain rfl:n=k:=by omega
   have F:Hid (KR w.heap.size wr (.slice O n c) l):=Hd (u.o.below b.o);have I:=Hd (B.o.trans (b.o.mono B.o.size));go_wp2;go_ret;exact⟨_,rfl,F.o,I.o⟩
noncomputable def atC (W:World)(b a:Nat):Value:=(W.cell? ⟨b,a,none⟩).getD (.bool false)
theorem ZrK {W:World}{b a:Nat}{cs:Array Value}{t:TypeId}(d:Box W b cs t)(c:a<cs.size):W.cell? ⟨b,a,none⟩=some (atC W b a):=by
 unfold atC;rw[d.cell a (YbZ c)];rfl
structure FC (w:World) (c1 c2:Nat) (a1:Array Value) (n:Nat) (t t2:TypeId) (W:World):Prop where
 b1:Box W c1 a1 t
 b2:∃a2,a2.size=n/\Box W c2 a2 t2
 ne:c1≠c2
 bel:Below w.heap.size w W
 ge2:w.heap.size<=c2
theorem Zsd {w:World}{b f:Nat}{a:Array Value}{n:Nat}{t d:TypeId}{W:World}(c:FC w b f a n t d W):FC w b f a n t d W.drew:=⟨c.b1,c.b2,c.ne,Zab c.bel,c.ge2⟩
theorem Zqy {w:World}{d g:Nat}{c:Array Value}{n:Nat}{t f:TypeId}{W h:World}(a:Below W.heap.size W h)(b:FC w d g c n t f W):FC w d g c n t f h:=
 ⟨b.b1.below a,let⟨j,i,k⟩:=b.b2;⟨j,i,k.below a⟩,b.ne,b.bel.trans (a.mono b.bel.size),b.ge2⟩
theorem Zta {w:World}{d b:Nat}{c:Array Value}{n:Nat}{t f:TypeId}{W:World}(g:Nat)(u:Value)(a:FC w d b c n t f W):FC w d b c n t f (W.setCell ⟨b,g,none⟩ u):=
 ⟨a.b1.set_ne a.ne g u,let⟨i,h,j⟩:=a.b2;⟨i.setIfInBounds g u,by simp[h],j.set g u⟩,a.ne,a.bel.setCell a.ge2 u,a.ge2⟩
theorem FC.at_ {w:World}{d a:Nat}{b:Array Value}{n:Nat}{t i:TypeId}{W:World}(j:FC w d a b n t i W)(g:Nat)(h:g<n):W.cell? ⟨a,g,none⟩=some (atC W a g):=let⟨_,c,f⟩:=j.b2;ZrK f (by rw[c];exact h)
theorem FC.free {w:World}{c a:Nat}{b:Array Value}{n:Nat}{t f:TypeId}{W:World}(h:FC w c a b n t f W)(g:Nat):W.frozen? ⟨a,g,none⟩=false:=let⟨_,_,d⟩:=h.b2;d.free g
theorem FB.fc {w:World}{c f:Nat}{b a:Array Value}{t:TypeId}{W:World}(d:FB w c f b a t W):FC w c f b a.size t t W:=⟨d.b1,⟨a,rfl,d.b2⟩,d.ne,d.bel,d.ge2⟩
def Zex (s:Shp)(w:World)(e:Ending)(w':World):Prop:=∃a b,e=.returned (.agg #[.bool s.seen,a,b])/\KR w.heap.size w' a s.stk/\KR w.heap.size w' b s.loc/\Below w.heap.size w w'
structure Shp.Small (s:Shp):Prop where
 n1:s.stk.length<=1048576
 n2:s.loc.length<=1048576
 k1:∀x∈s.stk,x.length<=281474976710656
 k2:∀x∈s.loc,x.length<=281474976710656
theorem ZeX:(prog.info? 30).map (·.size)=some 3:=by kernel_rfl
theorem ZgM {A:Nat->Prop}(s:Shp)(v:Value)(w:World)(ao:ShpR A w s v)(D:s.Small):Calls prog 37 #[v] w (Zex s w):=by
 obtain⟨a,b,rfl,G,J⟩:=ao;have L:Hid (∀W,Below w.heap.size w W->Calls prog 18 #[a] W (Zhd s.stk W)):=Hd (fun W aa=>Zd8 s.stk a W (StrR.st.below G aa) D.n1 D.k1);have I:Hid (∀W,Below w.heap.size w W->Calls prog 18 #[b] W (Zhd s.loc W)):=Hd (fun W aa=>Zd8 s.loc b W (StrR.st.below J aa) D.n2 D.k2);obtain⟨z,u,rfl⟩:=G.shape;obtain⟨lo,B,rfl⟩:=J.shape;unfold Zhd at L I;obtain⟨f,stk,loc⟩:=s;simp only at L I⊢;unfold Zex;simp only;obtain⟨y,O⟩:∃n,n=stk.length:=⟨_,rfl⟩
 obtain⟨x,U⟩:∃n,n=loc.length:=⟨_,rfl⟩
 rw[←O]at L⊢;rw[←U]at I⊢;clear G J D O U;have H:=Hd (ZgO w #[.bool f,.slice z y u,.slice lo x B] #[.bool false,.slice none 0 0,.slice none 0 0] 30);obtain⟨K,X⟩:∃K,K=(w.alloc (.cells #[.bool f,.slice z y u,.slice lo x B] 30)).alloc (.cells #[.bool false,.slice none 0 0,.slice none 0 0] 30):=⟨_,rfl⟩
 go_enter func37,ntmps37
 go_upto_region 1 with fail;rw[←X]at H⊢;clear X;obtain⟨t,R⟩:∃c,c=w.heap.size:=⟨_,rfl⟩
 rw[←R]at H⊢;obtain⟨d,M⟩:∃c,c=t+1:=⟨_,rfl⟩
 rw[←M]at H⊢;clear M R;have am:=H.o;have ak:FC w t d #[.bool f,.slice z y u,.slice lo x B] 3 30 30 K:=am.fc;have ag:Hid (∀W,FC w t d #[.bool f,.slice z y u,.slice lo x B] 3 30 30 W->W.cell? ⟨t,0,none⟩=some (.bool f)/\W.cell? ⟨t,1,none⟩=some (.slice z y u)/\W.cell? ⟨t,2,none⟩=some (.slice lo x B)/\W.cell? ⟨d,0,none⟩=some (atC W d 0)/\W.frozen? ⟨d,0,none⟩=false/\W.cell? ⟨d,1,none⟩=some (atC W d 1)/\W.frozen? ⟨d,1,none⟩=false/\W.cell? ⟨d,2,none⟩=some (atC W d 2)/\W.frozen? ⟨d,2,none⟩=false):=Hd (fun W C=>⟨C.b1.cell 0 rfl,C.b1.cell 1 rfl,C.b1.cell 2 rfl,C.at_ 0 (by omega),C.free 0,C.at_ 1 (by omega),C.free 1,C.at_ 2 (by omega),C.free 2⟩);have E:Hid (∀W,FB w t d #[.bool f,.slice z y u,.slice lo x B] #[.bool false,.slice none 0 0,.slice none 0 0] 30 W->Below w.heap.size w W):=Hd (fun W C=>C.bel);have Y:Hid (∀W V v l,FB w t d #[.bool f,.slice z y u,.slice lo x B] #[.bool false,.slice none 0 0,.slice none 0 0] 30 W->KR W.heap.size V v l->KR w.heap.size V v l/\v.ownBlock≠some d):=Hd (fun W V v l C k=>⟨KRF.mono k C.bel.size,fun e=>by have G:=(KRF.own k _ e).1;have J:=C.b2.lt;omega⟩);obtain⟨au,ar,aB,aD,aw,ax,az,aC,av⟩:=ag.o K ak;first
 |(go_region_held (fun W=>W.cell? ⟨t,0,none⟩=some (.bool f)/\W.cell? ⟨t,1,none⟩=some (.slice z y u)/\W.cell? ⟨t,2,none⟩=some (.slice lo x B)/\W.cell? ⟨d,0,none⟩=some (atC W d 0)/\W.frozen? ⟨d,0,none⟩=false/\W.cell? ⟨d,1,none⟩=some (atC W d 1)/\W.frozen? ⟨d,1,none⟩=false/\W.cell? ⟨d,2,none⟩=some (atC W d 2)/\W.frozen? ⟨d,2,none⟩=false) ((refine ag.o _ ?_;(with_reducible repeat (first|assumption|refine Zsd ?_|(apply Zqy;assumption)|refine Zta _ _ ?_))))
   (first
    |((go_at_call 18;(with_reducible refine(L.o _ ?_).mono ?_);(focus (refine E.o _ ?_;(with_reducible repeat (first|assumption|refine ZbZ ?_|(apply ZaR;assumption)));done));rintro en ap⟨ay,rfl,Q,aq⟩;obtain⟨h,j,rfl⟩:=Q.shape))
    |((go_at_call 18;(with_reducible refine(I.o _ ?_).mono ?_);(focus (refine E.o _ ?_;(with_reducible repeat (first|assumption|refine ZbZ ?_|(apply ZaR;assumption)));done));rintro en m⟨aA,rfl,T,ah⟩;obtain⟨q,r,rfl⟩:=T.shape))))
 |fail
 all_goals
  have F:FB w t d #[.bool f,.slice z y u,.slice lo x B] #[.bool false,.slice none 0 0,.slice none 0 0] 30 m:=by(with_reducible repeat (first|assumption|refine ZbZ ?_|(apply ZaR;assumption)))
  obtain⟨Z,aj⟩:=Y.o _ _ _ _ (by(with_reducible repeat (first|assumption|refine ZbZ ?_|(apply ZaR;assumption)))) Q;obtain⟨ac,ae⟩:=Y.o _ _ _ _ (by(with_reducible repeat (first|assumption|refine ZbZ ?_|(apply ZaR;assumption)))) T;have ad:KR w.heap.size m (.slice h stk.length j) stk:=by
   with_reducible exact KRF.below Z ah
  have N:Only (fun i=>i=d) m (((m.setCell ⟨d,0,none⟩ (.bool f)).setCell ⟨d,1,none⟩ (.slice h stk.length j)).setCell ⟨d,2,none⟩ (.slice q loc.length r)):=(((Yak (fun i=>i=d) m).setCell (p:=⟨d,0,none⟩) rfl _).setCell (p:=⟨d,1,none⟩) rfl _).setCell (p:=⟨d,2,none⟩) rfl _;have ai:Hid (KR w.heap.size (((m.setCell ⟨d,0,none⟩ (.bool f)).setCell ⟨d,1,none⟩ (.slice h stk.length j)).setCell ⟨d,2,none⟩ (.slice q loc.length r)) (.slice h stk.length j) stk):=Hd (ad.keep N (fun g ab e=>aj (by rw[ab,e])));have af:Hid (KR w.heap.size (((m.setCell ⟨d,0,none⟩ (.bool f)).setCell ⟨d,1,none⟩ (.slice h stk.length j)).setCell ⟨d,2,none⟩ (.slice q loc.length r)) (.slice q loc.length r) loc):=Hd (ac.keep N (fun g ab e=>ae (by rw[ab,e])));have l:=ZaS (P:=prog) (w:=(((m.setCell ⟨d,0,none⟩ (.bool f)).setCell ⟨d,1,none⟩ (.slice h stk.length j)).setCell ⟨d,2,none⟩ (.slice q loc.length r))) (cs:=#[.bool f,.slice h stk.length j,.slice q loc.length r]) (((F.b2.set 0 (.bool f)).set 1 (.slice h stk.length j)).set 2 (.slice q loc.length r)) underlying30 rfl ZeX;have al:Below w.heap.size w (((m.setCell ⟨d,0,none⟩ (.bool f)).setCell ⟨d,1,none⟩ (.slice h stk.length j)).setCell ⟨d,2,none⟩ (.slice q loc.length r)):=(((F.bel.setCell F.ge2 _).setCell F.ge2 _).setCell F.ge2 _);go_wp2;refine bodyPost_ret (v:=.agg #[.bool f,.slice h stk.length j,.slice q loc.length r]) ?_ rfl ⟨_,_,rfl,ai.o,af.o,al⟩;simp only[results,results37];simp[asAddr,l]
