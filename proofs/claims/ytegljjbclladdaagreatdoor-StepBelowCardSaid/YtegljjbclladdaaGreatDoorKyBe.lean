/- laws -/
import Derived.Test.YtegljjbclladdaaGreatDoorK37
import Derived.Test.YtegljjbclladdaaGreatDoorK73
import Derived.Test.YtegljjbclladdaaGreatDoorK77
import Derived.Test.YtegljjbclladdaaGreatDoorK85
import Derived.Test.YtegljjbclladdaaGreatDoorK86
import Derived.Test.YtegljjbclladdaaGreatDoorK87
set_option maxRecDepth 100000
set_option maxHeartbeats 16000000
namespace Go.Proofs.YtegljjbclladdaaGreatDoor
open Go.ChangeShapes Go.WideShapes Go.ChangeAt Go.RowKit Go.Lib Go.WideMaps Go.WideElems Go.Deep Proofs.Tryz
def Shp.real (s:Shp):Prop:=(∀x∈s.stk,Zaw x)/\(∀x∈s.loc,Zaw x)/\s.Fit
theorem Zo0:prog.cellsOf 30=3:=by kernel_rfl
theorem ZhK {A:Type}{enc:TypeId×Value->A}{w:World}{held:Bool}{d:Nat}{cs:List Value}{x:DataW A×List MemPlace}(u:cs.length=3)
  (D:DataW.trod enc prog w 0 (fun _=>true) held d 30 cs=some x):∃z:Shp,z.real/\∃v:Value,ShpR Anyw w z v/\v.cells.toList=cs:=by
 obtain⟨b,n,_,_,_,c,a⟩:=DataW.trod_struct underlying30 D
 match cs,u with
 |[c0,c1,c2],_=>
  have l:DataW.trod enc prog w 0 (fun _=>true) held n 4 [c0]=b[0]?:=by
   have g:=a 0 _ rfl;change DataW.trod enc prog w 0 (fun _=>true) held n 4 (([c0,c1,c2].drop 0).take (prog.cellsOf 4))=b[0]? at g;rw[ZoZ]at g;exact g
  rw[Yaa (by rw[c];decide)]at l;have j:DataW.trod enc prog w 0 (fun _=>true) held n 22 [c1]=b[1]?:=by
   have g:=a 1 _ rfl;change DataW.trod enc prog w 0 (fun _=>true) held n 22 (([c0,c1,c2].drop 1).take (prog.cellsOf 22))=b[1]? at g;rw[Zkc]at g;exact g
  rw[Yaa (by rw[c];decide)]at j;have f:DataW.trod enc prog w 0 (fun _=>true) held n 22 [c2]=b[2]?:=by
   have g:=a 2 _ rfl;change DataW.trod enc prog w 0 (fun _=>true) held n 22 (([c0,c1,c2].drop 2).take (prog.cellsOf 22))=b[2]? at g;rw[Zkc]at g;exact g
  rw[Yaa (by rw[c];decide)]at f;obtain⟨m,i,_⟩:=DataW.trod_bool underlying4 l;obtain⟨C,l1,h,t,q,r⟩:=ZeR j;obtain⟨B,l2,k,y,s,p⟩:=ZeR f;simp only[YaT,and_true]at i;subst i;simp only[YaT,and_true]at h;subst h;simp only[YaT,and_true]at k;subst k;exact⟨⟨m,l1,l2⟩,⟨q,s,r,p⟩,_,⟨_,_,rfl,t,y⟩,rfl⟩
end Go.Proofs.YtegljjbclladdaaGreatDoor
namespace Go.Proofs.YtegljjbclladdaaGreatDoor
open Go.ChangeShapes Go.WideShapes Go.ChangeAt Go.RowKit Go.Lib Go.WideMaps Go.WideElems Go.Deep Proofs.Tryz
theorem ZtH {r:Type}{enc:TypeId×Value->r}{w:World}{held:Bool}{v:Value}{d:DataW r}{p:List MemPlace}{base:Nat}(a:Value.okWide prog w .any base 26 v)
  (y:DataW.Trod enc prog w 0 (fun _=>true) held 26 v d p):∃m:Mth,(m.held/\m.Fit/\∀x∈m.code,Zaw x.op)/\MthR Anyw w m v:=by
 obtain⟨cs,rfl,b⟩:=okWide_struct underlying26 a;obtain⟨n,f⟩:=y;rw[Ztj]at b;have j:(Value.agg cs).cells.toList=cs.toList:=rfl;rw[j]at f;obtain⟨c,l,v,a,h⟩:=Zrb (by simpa using b) f;refine⟨c,l,?_⟩;have g:=a;obtain⟨i,q,k,rfl,s,u,t⟩:=a;have:cs=(Value.agg #[.string (S c.name),i,.string (S c.res),.bool c.abs,.int .i64 c.loc,q,k]).cells:=Yce.1 h.symm;rw[this];exact g
theorem ZtF {l:Type}{enc:TypeId×Value->l}{w:World}{held:Bool}{v:Value}{d:DataW l}{p:List MemPlace}{base:Nat}(h:Value.okWide prog w .any base 28 v)
  (m:DataW.Trod enc prog w 0 (fun _=>true) held 28 v d p):∃i:Ins,(i64 i.n/\Zaw i.op/\Zaw i.s)/\v=.agg #[.string (S i.op),.int .i64 i.n,.string (S i.s)]:=by
 obtain⟨cs,rfl,a⟩:=okWide_struct underlying28 h;obtain⟨k,b⟩:=m;rw[ZrP]at a;have g:(Value.agg cs).cells.toList=cs.toList:=rfl;rw[g]at b;obtain⟨c,j,v,rfl,f⟩:=Zk7 (by simpa using a) b;refine⟨c,j,?_⟩;have:cs=(Value.agg #[.string (S c.op),.int .i64 c.n,.string (S c.s)]).cells:=Yce.1 f.symm;rw[this];rfl
end Go.Proofs.YtegljjbclladdaaGreatDoor
namespace Go.Proofs.YtegljjbclladdaaGreatDoor
open Go.RowKit Proofs.Tryz
structure Shp.Few (s:Shp):Prop where
 n1:s.stk.length<=40
 n2:s.loc.length<=40
 k1:∀x∈s.stk,x.length<=100
 k2:∀x∈s.loc,x.length<=100
def ZfA (s:Shp)(w:World)(e:Ending)(w':World):Prop:=∃b,e=.returned (.bool b)/\(b=true->s.Few)/\Below w.heap.size w w'
theorem Zhr {A:Nat->Prop}(s:Shp)(v:Value)(w:World)(ai:ShpR A w s v)(O:s.Fit):Calls prog 7 #[v] w (ZfA s w):=by
 obtain⟨ao,aq,rfl,Q,T⟩:=ai;obtain⟨K,H,rfl⟩:=Q.shape;obtain⟨lo,L,rfl⟩:=T.shape;have ab:=Hd (Src.elem Q);have ac:=Hd (Src.elem T);obtain⟨n,J⟩:∃n,n=s.stk.length:=⟨_,rfl⟩
 obtain⟨m,F⟩:∃m,m=s.loc.length:=⟨_,rfl⟩
 have am:n<=9223372036854775807:=by rw[J];exact O.1
 have al:m<=9223372036854775807:=by rw[F];exact O.2
 rw[←J,←F];have N:=Hd J;have V:=Hd F;have Y:=Hd (Box.new w #[.bool s.seen,.slice K n H,.slice lo m L] 30);have d:Hid (Below w.heap.size w (w.alloc (.cells #[.bool s.seen,.slice K n H,.slice lo m L] 30))):=Hd (Zaa (Yab _ _) _);clear Q T O J F;by_cases P:40<n
 ·have af:40<(n:Int):=by omega
  clear P;go_enter func7,ntmps7;go_wp2;go_ret;exact(⟨false,rfl,(fun y=>by cases y),d.o⟩:ZfA s w _ _)
 have af:¬(40<(n:Int)):=by omega
 by_cases X:40<m
 ·have ad:40<(m:Int):=by omega
  clear P X;go_enter func7,ntmps7;go_wp2;go_ret;exact(⟨false,rfl,(fun y=>by cases y),d.o⟩:ZfA s w _ _)
 have ad:¬(40<(m:Int)):=by omega
 have aa:Hid (n<=40/\m<=40):=Hd ⟨by omega,by omega⟩;clear P X;go_enter func7,ntmps7;go_wp2
 go_loopw [3] (fun v wr=>∃k:Nat,k<=n/\v=.int .i64 k/\(∀x∈s.stk.take k,x.length<=100)/\Below (w.alloc (.cells #[.bool s.seen,.slice K n H,.slice lo m L] 30)).heap.size (w.alloc (.cells #[.bool s.seen,.slice K n H,.slice lo m L] 30)) wr) (fun v _=>n-(intOf v).toNat)
 case atStart=>exact⟨0,Yao _,rfl,(fun x i=>by simp at i),Yab _ _⟩
 case round=>
  obtain⟨k,ae,rfl,h,l⟩:=hrel;have z:=Hd h;have g:=Hd l;have c:=(Y.o.below l).cell 1 rfl;clear h l;by_cases E:k<n
  ·obtain⟨x,i⟩:∃x,s.stk[k]?=some x:=⟨_,Yaa (by rw[←N.o];exact E)⟩
   obtain⟨C,D,ak,rfl,B,_,u⟩:=ab.o k x i;obtain rfl:=B;have ah:wr.cell? ⟨C,D+k,none⟩=some (.string (S x)):=(Yae (S:=fun _=>False) (d.o.trans (g.o.mono d.o.size))).cell (a:=⟨C,D+k,none⟩) (by have p:=u 0 _ rfl;rw[YaH]at p;exact p) id;have ag:((S x).size:Int)=(x.length:Int):=by rw[Zat]
   have W:(0:Int)<=(k:Int):=by omega
   have Z:(k:Int)<(n:Int):=by omega
   have R:Hid (s.stk.take (k+1)=s.stk.take k++[x]):=Hd (by rw[YaK,i];rfl);have f:=Hd (d.o.trans (g.o.mono d.o.size));clear u i;by_cases q:100<x.length
   ·have U:100<(x.length:Int):=by omega
    clear q;go_wp2;go_ret;exact(⟨false,rfl,(fun y=>by cases y),f.o⟩:ZfA s w _ _)
   ·have U:¬(100<(x.length:Int)):=by omega
    have t:Hid (x.length<=100):=Hd (by omega);clear q;go_wp2;go_roundw
    case rel=>exact⟨k+1,by omega,by go_num,(fun aj b=>by rw[R.o,Yaq,Yax]at b;rcases b with b|b;exact z.o aj b;rw[b];exact t.o),g.o⟩
    case measure=>simp[intOf];omega
  ·obtain rfl:n=k:=by omega
   have r:Hid (∀x∈s.stk,x.length<=100):=Hd (by have y:=z.o;rw[N.o,YaE]at y;exact y);have f:=Hd (d.o.trans (g.o.mono d.o.size));have I:=r;obtain⟨W2,M⟩:∃W2,W2=wr:=⟨_,rfl⟩
   have j:=f;have G:=Hd (Y.o.below g.o);clear z c r f g;rw[←M]at j G⊢;clear M;have ar:=G.o.cell 1 rfl;have ap:=G.o.cell 2 rfl;go_wp2;go_loopw [4] (fun v wr=>∃k:Nat,k<=m/\v=.int .i64 k/\(∀x∈s.loc.take k,x.length<=100)/\Below W2.heap.size W2 wr) (fun v _=>m-(intOf v).toNat)
   case atStart=>exact⟨0,Yao _,rfl,(fun x i=>by simp at i),Yab _ _⟩
   case round=>
    obtain⟨k,ae,rfl,h,l⟩:=hrel;have z:=Hd h;have g:=Hd l;have c:=(G.o.below l).cell 2 rfl;clear h l;by_cases E:k<m
    ·obtain⟨x,i⟩:∃x,s.loc[k]?=some x:=⟨_,Yaa (by rw[←V.o];exact E)⟩
     obtain⟨C,D,ak,rfl,B,_,u⟩:=ac.o k x i;obtain rfl:=B;have ah:wr.cell? ⟨C,D+k,none⟩=some (.string (S x)):=(Yae (S:=fun _=>False) (j.o.trans (g.o.mono j.o.size))).cell (a:=⟨C,D+k,none⟩) (by have p:=u 0 _ rfl;rw[YaH]at p;exact p) id;have ag:((S x).size:Int)=(x.length:Int):=by rw[Zat]
     have W:(0:Int)<=(k:Int):=by omega
     have Z:(k:Int)<(m:Int):=by omega
     have R:Hid (s.loc.take (k+1)=s.loc.take k++[x]):=Hd (by rw[YaK,i];rfl);have f:=Hd (j.o.trans (g.o.mono j.o.size));clear u i;by_cases q:100<x.length
     ·have U:100<(x.length:Int):=by omega
      clear q;go_wp2;go_ret;exact(⟨false,rfl,(fun y=>by cases y),f.o⟩:ZfA s w _ _)
     ·have U:¬(100<(x.length:Int)):=by omega
      have t:Hid (x.length<=100):=Hd (by omega);clear q;go_wp2;go_roundw
      case rel=>exact⟨k+1,by omega,by go_num,(fun aj b=>by rw[R.o,Yaq,Yax]at b;rcases b with b|b;exact z.o aj b;rw[b];exact t.o),g.o⟩
      case measure=>simp[intOf];omega
    ·obtain rfl:m=k:=by omega
     have r:Hid (∀x∈s.loc,x.length<=100):=Hd (by have y:=z.o;rw[V.o,YaE]at y;exact y);have f:=Hd (j.o.trans (g.o.mono j.o.size));go_wp2;go_ret;exact(⟨true,rfl,(fun _=>⟨by rw[←N.o];exact aa.o.1,by rw[←V.o];exact aa.o.2,I.o,r.o⟩),f.o⟩:ZfA s w _ _)
theorem Shp.Few.small {s:Shp}(b:s.Few):s.Small:=⟨Yaj b.n1 (by decide),Yaj b.n2 (by decide),fun x a=>Yaj (b.k1 x a) (by decide),fun x a=>Yaj (b.k2 x a) (by decide)⟩
theorem ShpR.any {A:Nat->Prop}{w:World}{s:Shp}{v:Value}(f:ShpR A w s v):ShpR Anyw w s v:=by
 obtain⟨a,b,e,c,d⟩:=f;exact⟨a,b,e,StrR.st.any c,StrR.st.any d⟩
end Go.Proofs.YtegljjbclladdaaGreatDoor
namespace Go.Proofs.YtegljjbclladdaaGreatDoor
open Go.RowKit Proofs.Tryz
def Zji:List UInt8:=[115,116,111,114,101]
structure ZrH (es:List Ent):Prop where
 fk:∀sx,(Zel es sx).length<=1000
 pl:∀sx,(Zeh es sx).length<=1000
 pk:∀sx,∀x∈Zeh es sx,x.length<=1000000
 rl:∀sx,(Zep es sx).length<=1000000
 ml:∀i,(Zal es i).length<=9223372036854775807
 sm:∀i,∀m∈Zal es i,m.Small
theorem Zit {a:List UInt8}{g:Nat}(f:Zfm a=some g):(a,g)∈effL:=by
 unfold Zfm at f;obtain⟨h,b,rfl⟩:=YaO.1 f;have c:=YbL b;have d:=Ych b;rw[List.mem_reverse]at c;obtain rfl:h.1=a:=eq_of_beq d;exact c
def ZrG (a:World)(p:Nat->Option Value)(c:Nat)(o:OpM):Prop:=∀(b lo:Nat) (W:World) (stk loc:List (List UInt8)),StW b lo p a W stk loc 0->stk.length<=1000->loc.length<=1000->(∀x∈stk,x.length<=1000000)->(∀x∈loc,x.length<=1000000)->Calls prog c #[.pointer (some ⟨b,0,none⟩)] W (OpG b lo p a o stk loc W)
theorem Ztl {A:Nat->Prop}{B:Nat->Nat}{H E:Nat}{es:List Ent}{C:World}(f:Tab A C H E B es)(h:Shape es)(q:ZrH es){p:Nat->Option Value}(g:p 0=some (.pointer (some ⟨H,0,none⟩))){s u j:List UInt8}{n:Int}(G:p 3=some (.string (S s)))(y:p 9=some (.int .i64 n))(m:p 10=some (.string (S j)))(w:s.length<=1000)(k:j.length<=1000){I:Nat}(D:Zfm u=some I) :
  ∃(o:OpM) (J:Nat),o.Even J/\(o.setl=none\/u=Zji)/\ZrG C p I o:=by
 have v:=Zit D;clear D;have d:∀ {l:List (List UInt8)},(∀x∈l,x.length<=1000000)->∀x∈l,x.length<=9223372036854775807:=fun c x F=>by have:=c x F;omega
 simp only[effL,Yai,Yat,or_false,Prod.mk.injEq]at v;rcases v with⟨rfl,rfl⟩|⟨rfl,rfl⟩|⟨rfl,rfl⟩|⟨rfl,rfl⟩|⟨rfl,rfl⟩|⟨rfl,rfl⟩|⟨rfl,rfl⟩|⟨rfl,rfl⟩|⟨rfl,rfl⟩|⟨rfl,rfl⟩|⟨rfl,rfl⟩|⟨rfl,rfl⟩|⟨rfl,rfl⟩|⟨rfl,rfl⟩|⟨rfl,rfl⟩|⟨rfl,rfl⟩|⟨rfl,rfl⟩|⟨rfl,rfl⟩|⟨rfl,rfl⟩|⟨rfl,rfl⟩|⟨rfl,rfl⟩|⟨rfl,rfl⟩|⟨rfl,rfl⟩|⟨rfl,rfl⟩|⟨rfl,rfl⟩|⟨rfl,rfl⟩|⟨rfl,rfl⟩|⟨rfl,rfl⟩|⟨rfl,rfl⟩|⟨rfl,rfl⟩|⟨rfl,rfl⟩|⟨rfl,rfl⟩|⟨rfl,rfl⟩|⟨rfl,rfl⟩|⟨rfl,rfl⟩|⟨rfl,rfl⟩|⟨rfl,rfl⟩|⟨rfl,rfl⟩|⟨rfl,rfl⟩|⟨rfl,rfl⟩|⟨rfl,rfl⟩|⟨rfl,rfl⟩
 ·exact⟨⟨fun _=>0,0,fun _ _=>true,fun _ _=>[intL],none⟩,1,fun _ _ _=>rfl,.inl rfl,fun i lo W stk loc c a _ _ _=>ZhN c a⟩
 ·exact⟨⟨fun _=>0,0,fun _ _=>true,fun _ _=>[Zbq],none⟩,1,fun _ _ _=>rfl,.inl rfl,fun i lo W stk loc c a _ _ _=>Zfl c a⟩
 ·exact⟨⟨fun _=>0,0,fun _ _=>true,fun _ _=>[Zbq],none⟩,1,fun _ _ _=>rfl,.inl rfl,fun i lo W stk loc c a _ _ _=>Zfl c a⟩
 ·exact⟨⟨fun _=>0,0,fun _ _=>true,fun _ _=>[Zfc],none⟩,1,fun _ _ _=>rfl,.inl rfl,fun i lo W stk loc c a _ _ _=>Zkg c a⟩
 ·exact⟨⟨fun _=>0,0,fun _ _=>true,fun _ _=>[Zcv],none⟩,1,fun _ _ _=>rfl,.inl rfl,fun i lo W stk loc c a _ _ _=>Zkf c a⟩
 ·exact⟨ZiU n,1,fun _ _ _=>rfl,.inl rfl,fun i lo W stk loc c a r _ z=>Zsn n y c a r z⟩
 ·exact⟨Zgt n,0,fun _ _ _=>rfl,.inr rfl,fun i lo W stk loc c a r _ _=>Zrq n y c a r⟩
 ·exact⟨⟨fun _=>0,1,fun _ _=>true,fun _ _=>[],none⟩,0,fun _ _ _=>rfl,.inl rfl,fun i lo W stk loc c a _ _ _=>Ztn c a⟩
 ·exact⟨⟨fun _=>0,1,fun _ _=>true,fun t _=>[t.getD 0 [],t.getD 0 []],none⟩,2,fun _ _ _=>rfl,.inl rfl,fun i lo W stk loc c a _ b _=>Zs7 c a b⟩
 ·exact⟨⟨fun _=>0,2,fun _ _=>true,fun t _=>[t.getD 1 [],t.getD 0 []],none⟩,2,fun _ _ _=>rfl,.inl rfl,fun i lo W stk loc c a _ b _=>ZsM c a b⟩
 ·exact⟨ZbE es [intL,intL] [intL],1,fun _ _ _=>rfl,.inl rfl,fun i lo W stk loc c a _ b _=>Za4 f h g c a (d b)⟩
 ·exact⟨ZbE es [intL,intL] [intL],1,fun _ _ _=>rfl,.inl rfl,fun i lo W stk loc c a _ b _=>Za4 f h g c a (d b)⟩
 ·exact⟨ZbE es [intL,intL] [intL],1,fun _ _ _=>rfl,.inl rfl,fun i lo W stk loc c a _ b _=>Za4 f h g c a (d b)⟩
 ·exact⟨ZbE es [intL,intL] [intL],1,fun _ _ _=>rfl,.inl rfl,fun i lo W stk loc c a _ b _=>Za4 f h g c a (d b)⟩
 ·exact⟨ZbE es [intL,intL] [intL],1,fun _ _ _=>rfl,.inl rfl,fun i lo W stk loc c a _ b _=>Za4 f h g c a (d b)⟩
 ·exact⟨ZbE es [intL,intL] [intL],1,fun _ _ _=>rfl,.inl rfl,fun i lo W stk loc c a _ b _=>Za4 f h g c a (d b)⟩
 ·exact⟨ZbE es [intL,intL] [intL],1,fun _ _ _=>rfl,.inl rfl,fun i lo W stk loc c a _ b _=>Za4 f h g c a (d b)⟩
 ·exact⟨ZbE es [intL,intL] [intL],1,fun _ _ _=>rfl,.inl rfl,fun i lo W stk loc c a _ b _=>Za4 f h g c a (d b)⟩
 ·exact⟨ZbE es [intL,intL] [intL],1,fun _ _ _=>rfl,.inl rfl,fun i lo W stk loc c a _ b _=>Za4 f h g c a (d b)⟩
 ·exact⟨ZbE es [intL,intL] [intL],1,fun _ _ _=>rfl,.inl rfl,fun i lo W stk loc c a _ b _=>Za4 f h g c a (d b)⟩
 ·exact⟨ZbE es [intL] [intL],1,fun _ _ _=>rfl,.inl rfl,fun i lo W stk loc c a _ b _=>ZoY f h g c a (d b)⟩
 ·exact⟨ZbE es [intL,intL] [Zbq],1,fun _ _ _=>rfl,.inl rfl,fun i lo W stk loc c a _ b _=>ZgL f h g c a (d b)⟩
 ·exact⟨ZbE es [intL,intL] [Zbq],1,fun _ _ _=>rfl,.inl rfl,fun i lo W stk loc c a _ b _=>ZgL f h g c a (d b)⟩
 ·exact⟨ZbE es [Zbq] [Zbq],1,fun _ _ _=>rfl,.inl rfl,fun i lo W stk loc c a _ b _=>Zox f h g c a (d b)⟩
 ·exact⟨ZbE es [Zbq,Zbq] [Zbq],1,fun _ _ _=>rfl,.inl rfl,fun i lo W stk loc c a _ b _=>Zr2 f h g c a (d b)⟩
 ·exact⟨ZbE es [Zfc,Zfc] [Zfc],1,fun _ _ _=>rfl,.inl rfl,fun i lo W stk loc c a _ b _=>ZqI f h g c a (d b)⟩
 ·exact⟨ZqL,0,fun _ _ _=>rfl,.inl rfl,fun i lo W stk loc c _ _ _ _=>Zsj c⟩
 ·exact⟨ZbE es [Zbq] [],0,fun _ _ _=>rfl,.inl rfl,fun i lo W stk loc c a _ b _=>Znv f h g c a (d b)⟩
 ·exact⟨ZbE es [intL] [],0,fun _ _ _=>rfl,.inl rfl,fun i lo W stk loc c a _ b _=>ZsD f h g c a (d b)⟩
 ·exact⟨Zho es j,1,fun _ _ _=>rfl,.inl rfl,fun i lo W stk loc c a _ _ _=>ZnO f g m k c a⟩
 ·exact⟨getO es j,1,fun _ _ _=>rfl,.inl rfl,fun i lo W stk loc c a _ b _=>Zsf f h g m k (q.fk j) c a (d b)⟩
 ·exact⟨ZsH es j,0,fun _ _ _=>rfl,.inl rfl,fun i lo W stk loc c a _ b _=>ZsG f h g m k (q.fk j) c a (d b)⟩
 ·exact⟨Zij es j,(if Zep es j=[]then[]else[Zep es j]:List (List UInt8)).length,fun _ _ _=>rfl,.inl rfl,fun i lo W stk loc c a _ b _=>Zqg f h q.ml q.sm g m k (q.pl j) (q.pk j) (q.rl j) c a (d b)⟩
 ·exact⟨arrO es j,1,fun _ _ _=>rfl,.inl rfl,fun i lo W stk loc c a _ b _=>ZgA f h g m k c a (d b)⟩
 ·exact⟨atO es,1,fun _ _ _=>rfl,.inl rfl,fun i lo W stk loc c a _ b _=>ZsY f h g c a b⟩
 ·exact⟨setO es,0,fun _ _ _=>rfl,.inl rfl,fun i lo W stk loc c a _ b _=>ZsJ f h g c a b⟩
 ·exact⟨Ztp es,1,fun _ _ _=>rfl,.inl rfl,fun i lo W stk loc c a _ b _=>Zrm f h g c a b⟩
 ·exact⟨isO es j,1,fun _ _ _=>rfl,.inl rfl,fun i lo W stk loc c a _ b _=>Ztc f h g m k c a (d b)⟩
 ·exact⟨ZsZ es j,1,fun _ _ _=>rfl,.inl rfl,fun i lo W stk loc c a _ b _=>Zqh f h g m k c a (d b)⟩
 ·exact⟨ZrN es,1,fun _ _ _=>rfl,.inl rfl,fun i lo W stk loc c a _ b _=>Zn3 f h g c a (d b)⟩
 ·exact⟨endO es s,0,fun t l _=>by unfold endO;split<;>rfl,.inl (by unfold endO;split<;>rfl),fun i lo W stk loc c a _ b _=>Zsc f h g G w c a (d b)⟩
 ·exact⟨ZbE es [Zbe] [],0,fun _ _ _=>rfl,.inl rfl,fun i lo W stk loc c a _ b _=>Zrw f h g c a (d b)⟩
theorem ZtD {B:Nat}{a:List UInt8}{z:Nat}(I:Zfm a=some z)(J:a.length<=1000)(p r g:List UInt8)(l q d:Option Addr)(j f m h c k:Nat)(t:Bool)(i n:Int)(s:Shp)(sv:Value)(b w:World)(C:Below b.heap.size b w)(G:ShpR Anyw w s sv)(u:s.Small)(H:s.stk.length<=1000)(y:s.loc.length<=1000)(E:∀x∈s.stk,x.length<=1000000)(A:∀x∈s.loc,x.length<=1000000)
  (o:OpM)(D:ZrG b (preS B p r a g (.slice l j f) (.slice q m h) (.slice d c k) t i n) z o)(F:∀args w,(callFunc z args).run prog w=.ok (.enter z args) w) :
  Calls prog 9 #[.pointer (some ⟨B,0,none⟩),.agg #[.string (S p),.slice l j f,.string (S r),.bool t,.int .i64 i,.slice q m h,.slice d c k],.agg #[.string (S a),.int .i64 n,.string (S g)],sv] w (DoG (o.res s) w):=
 ZnW z B p r a g l q d j f m h c k t i n s sv b w C G u I (by omega) F (o.stk s.stk s.loc) (o.loc s.stk s.loc) (o.er s.stk s.loc) (fun K lo W _ _ v=>D K lo W s.stk s.loc v H y E A)
theorem ZiE {es:List Ent}{f:Fld}:∀(L:List Nat),f∈ZaZ es L->∃(i:Nat) (e:Ent),es[i]?=some e/\f∈e.cls.flds
 |[],a=>by cases a
 |i::L,a=>by
  unfold ZaZ at a;rcases Yaq.1 a with a|a
  ·exact ZiE L a
  ·unfold Za6 at a;cases b:es[i]? with
   |none=>rw[b]at a;cases a
   |some e=>rw[b]at a;exact⟨i,e,b,a⟩
theorem Zg7:∀c∈allR cls7,(∀f∈c.flds,f.kind.length<=100)/\∀m∈c.mths,(m.params.length<=100/\m.res.length<=100)/\∀x∈m.params,x.length<=100:=by decide +kernel
theorem ZkO {i:Nat}{e:Ent}(a:(newT cls7)[i]?=some e):e.cls∈allR cls7:=by
 rw[←Zcs];exact Ya2.2 ⟨e,Yaf a,rfl⟩
theorem ZiZ {i:Nat}{m:Mth}(a:m∈Zal (newT cls7) i):∃e,(newT cls7)[i]?=some e/\m∈e.cls.mths:=by
 unfold Zal at a;cases b:(newT cls7)[i]? with
 |none=>rw[b]at a;cases a
 |some e=>rw[b]at a;exact⟨e,rfl,a⟩
theorem ZfF {c:List UInt8}{b:Nat×Mth}(f:Zez (newT cls7) c=some b):(b.2.params.length<=100/\b.2.res.length<=100)/\∀x∈b.2.params,x.length<=100:=by
 obtain⟨_,a⟩:=ZgP f;obtain⟨e,d,a⟩:=ZiZ a;exact(Zg7 e.cls (ZkO d)).2 b.2 a
theorem ZsE (ok:NewOk cls7):ZrH (newT cls7) where
 fk:=fun a=>by
  unfold Zel Zek;cases Zbc (newT cls7) (clsP a) (nmP a)with
  |none=>simp
  |some k=>
   simp only;cases j:(Zei (newT cls7) (clsP a))[k]? with
   |none=>simp
   |some f=>
    have b:=Yaf j;unfold Zei at b;obtain⟨i,e,d,h⟩:=ZiE _ b;have:=(Zg7 e.cls (ZkO d)).1 f h;show f.kind.length<=1000;omega
 pl:=fun a=>by
  unfold Zeh;cases g:Zez (newT cls7) a with
  |none=>simp
  |some l=>have:=(ZfF g).1.1;simp only;omega
 pk:=fun a x c=>by
  unfold Zeh at c;cases g:Zez (newT cls7) a with
  |none=>rw[g]at c;cases c
  |some l=>rw[g]at c;have:=(ZfF g).2 x c;omega
 rl:=fun a=>by
  unfold Zep;cases g:Zez (newT cls7) a with
  |none=>simp
  |some l=>have:=(ZfF g).1.2;simp only;omega
 ml:=fun i=>by
  unfold Zal;cases d:(newT cls7)[i]? with
  |none=>simp
  |some e=>have:=(ok.lined.clsSmall i e d).n3;simp only;omega
 sm:=fun i m b=>by
  obtain⟨e,d,b⟩:=ZiZ b;exact(ok.lined.clsSmall i e d).mths m b
theorem ZnY:∀k:Fin 42,(Zfm (ZaB k.val)).isSome=true:=by decide +kernel
theorem Zq8 {c:List UInt8}{b:Nat}(d:Zfm c=some b):∀args w,(callFunc b args).run prog w=.ok (.enter b args) w:=by
 have a:=Zit d;simp only[effL,Yai,Yat,or_false,Prod.mk.injEq]at a;rcases a with⟨rfl,rfl⟩|⟨rfl,rfl⟩|⟨rfl,rfl⟩|⟨rfl,rfl⟩|⟨rfl,rfl⟩|⟨rfl,rfl⟩|⟨rfl,rfl⟩|⟨rfl,rfl⟩|⟨rfl,rfl⟩|⟨rfl,rfl⟩|⟨rfl,rfl⟩|⟨rfl,rfl⟩|⟨rfl,rfl⟩|⟨rfl,rfl⟩|⟨rfl,rfl⟩|⟨rfl,rfl⟩|⟨rfl,rfl⟩|⟨rfl,rfl⟩|⟨rfl,rfl⟩|⟨rfl,rfl⟩|⟨rfl,rfl⟩|⟨rfl,rfl⟩|⟨rfl,rfl⟩|⟨rfl,rfl⟩|⟨rfl,rfl⟩|⟨rfl,rfl⟩|⟨rfl,rfl⟩|⟨rfl,rfl⟩|⟨rfl,rfl⟩|⟨rfl,rfl⟩|⟨rfl,rfl⟩|⟨rfl,rfl⟩|⟨rfl,rfl⟩|⟨rfl,rfl⟩|⟨rfl,rfl⟩|⟨rfl,rfl⟩|⟨rfl,rfl⟩|⟨rfl,rfl⟩|⟨rfl,rfl⟩|⟨rfl,rfl⟩|⟨rfl,rfl⟩|⟨rfl,rfl⟩
 ·exact Zac func42 (by kernel_rfl) rfl
 ·exact Zac func43 (by kernel_rfl) rfl
 ·exact Zac func43 (by kernel_rfl) rfl
 ·exact Zac func44 (by kernel_rfl) rfl
 ·exact Zac func45 (by kernel_rfl) rfl
 ·exact Zac func46 (by kernel_rfl) rfl
 ·exact Zac func47 (by kernel_rfl) rfl
 ·exact Zac func48 (by kernel_rfl) rfl
 ·exact Zac func49 (by kernel_rfl) rfl
 ·exact Zac func50 (by kernel_rfl) rfl
 ·exact Zac func51 (by kernel_rfl) rfl
 ·exact Zac func51 (by kernel_rfl) rfl
 ·exact Zac func51 (by kernel_rfl) rfl
 ·exact Zac func51 (by kernel_rfl) rfl
 ·exact Zac func51 (by kernel_rfl) rfl
 ·exact Zac func51 (by kernel_rfl) rfl
 ·exact Zac func51 (by kernel_rfl) rfl
 ·exact Zac func51 (by kernel_rfl) rfl
 ·exact Zac func51 (by kernel_rfl) rfl
 ·exact Zac func51 (by kernel_rfl) rfl
 ·exact Zac func52 (by kernel_rfl) rfl
 ·exact Zac func53 (by kernel_rfl) rfl
 ·exact Zac func53 (by kernel_rfl) rfl
 ·exact Zac func54 (by kernel_rfl) rfl
 ·exact Zac func55 (by kernel_rfl) rfl
 ·exact Zac func56 (by kernel_rfl) rfl
 ·exact Zac func57 (by kernel_rfl) rfl
 ·exact Zac func58 (by kernel_rfl) rfl
 ·exact Zac func59 (by kernel_rfl) rfl
 ·exact Zac func60 (by kernel_rfl) rfl
 ·exact Zac func61 (by kernel_rfl) rfl
 ·exact Zac func62 (by kernel_rfl) rfl
 ·exact Zac func63 (by kernel_rfl) rfl
 ·exact Zac func64 (by kernel_rfl) rfl
 ·exact Zac func65 (by kernel_rfl) rfl
 ·exact Zac func66 (by kernel_rfl) rfl
 ·exact Zac func67 (by kernel_rfl) rfl
 ·exact Zac func68 (by kernel_rfl) rfl
 ·exact Zac func69 (by kernel_rfl) rfl
 ·exact Zac func70 (by kernel_rfl) rfl
 ·exact Zac func71 (by kernel_rfl) rfl
 ·exact Zac func72 (by kernel_rfl) rfl
theorem ZkA {a:List UInt8}(f:¬refT a<0):∃g,Zfm a=some g:=by
 unfold refT at f;by_cases b:idx a<42
 ·have c:=ZnY ⟨idx a,b⟩;have d:ZaB (idx a)=a:=eq_of_beq (Zf1 a b);simp only[d]at c;exact YaL.1 c
 ·rw[Yar b]at f;exact absurd (by decide) f
theorem ZqX:∀k:Fin 42,(ZaB k.val).length<=100:=by decide +kernel
theorem ZpQ {a:List UInt8}(f:¬refT a<0):a.length<=100:=by
 unfold refT at f;by_cases b:idx a<42
 ·have c:=ZqX ⟨idx a,b⟩;have d:ZaB (idx a)=a:=eq_of_beq (Zf1 a b);simp only[d]at c;exact c
 ·rw[Yar b]at f;exact absurd (by decide) f
theorem ZkK {G K:Nat}{B:Nat->Nat}{A:Nat->Prop}{d:World}(ok:NewOk cls7)(H:Tab A d G K B (newT cls7))(a t c b:List UInt8)(n:Int)(f:¬refT a<0)(E:c.length<=1000)(D:b.length<=1000)(m u h:Option Addr)(l i r j g q:Nat)(v:Bool)(k:Int):∃(o:OpM) (N:Nat),o.Even N/\(o.setl=none\/a=Zji)/\
  ∀(s:Shp) (sv:Value) (w:World),Below d.heap.size d w->ShpR Anyw w s sv->s.Small->s.stk.length<=1000->s.loc.length<=1000->(∀x∈s.stk,x.length<=1000000)->(∀x∈s.loc,x.length<=1000000)->
   Calls prog 9 #[.pointer (some ⟨G,0,none⟩),.agg #[.string (S t),.slice m l i,.string (S c),.bool v,.int .i64 k,.slice u r j,.slice h g q],.agg #[.string (S a),.int .i64 n,.string (S b)],sv] w (DoG (o.res s) w):=by
 obtain⟨R,y⟩:=ZkA f;obtain⟨o,N,J,M,O⟩:=Ztl (p:=preS G t c a b (.slice m l i) (.slice u r j) (.slice h g q) v k n) H ok.shape (ZsE ok) rfl rfl rfl rfl E D y;exact⟨o,N,J,M,fun s sv w I P z Q C L F=>ZtD y (Yaj (ZpQ f) (by decide)) t c b m u h l i r j g q v k n s sv d w I P z Q C L F o O (Zq8 y)⟩
end Go.Proofs.YtegljjbclladdaaGreatDoor
namespace Go.Proofs.YtegljjbclladdaaGreatDoor
open Go.RowKit Proofs.Tryz

theorem Grew.alloc {a w:World}{u v:Value}(b:Grew a u w v)(o:Obj):Grew a u (w.alloc o) v:=⟨b.only.alloc o,b.came⟩
section
variable {P:Program}(w:World)
end

end Go.Proofs.YtegljjbclladdaaGreatDoor
namespace Go.Proofs.YtegljjbclladdaaGreatDoor
open Go.RowKit Go.Shelf Proofs.Tryz

theorem Tabs.keep {S:Nat->Prop}{w w':World}(h:Tabs w)(a:Only S w w')(f:¬S 3)(b:¬S 4):Tabs w':=
 ⟨fun c g=>a.cell (h.1 c g) f,fun i d=>⟨a.cell (h.2 i d).1 b,a.cell (h.2 i d).2 b⟩⟩
end Go.Proofs.YtegljjbclladdaaGreatDoor
namespace Go.Proofs.YtegljjbclladdaaGreatDoor
open Go.RowKit Proofs.Tryz
theorem InsSrc.keep {w w':World}{sv:Value}{l:List Ins}(m:InsSrc w sv l)(d:Below w.heap.size w w'):InsSrc w' sv l:=by
 rcases m with m|⟨b,o,c,n,h⟩
 ·exact .inl m
 ·refine .inr ⟨b,o,c,n,fun k x i=>?_⟩;obtain⟨g,f,j⟩:=h k x i;have a:=Yae (S:=fun _=>False) d;exact⟨a.cell g id,a.cell f id,a.cell j id⟩
theorem Zie:∀(l:List Ins),(∀x∈l,x.fine=true)->allE l=0
 |[],_=>rfl
 |x::l,h=>by
  have a:x.e=0:=by have:=h x Yam;unfold Ins.fine at this;simpa using this
  unfold allE;rw[Yay a];exact Zie l (fun c b=>h c (Yau _ b))
theorem Mth.Good.code {m:Mth}(c:m.Good)(a:m.abs=false):allE m.code=0/\∀x∈m.code,x.ok:=
 ⟨Zie _ (c.real a).2.1,fun x b=>(Zn6 ((c.real a).2.1 x b) (c.held.2.1 x b)).2⟩
theorem MPtr.below {A:Nat->Prop}{w w':World}{p:Value}{m:Mth}(l:MPtr A w p m)(a:Below w.heap.size w w'):MPtr A w' p m:=by
 obtain⟨b,o,v,d,h,f,i,g⟩:=l;have c:=Yae (S:=fun _=>False) a;exact⟨b,o,v,d,MthR.st.keep h c (fun _ _=>id),f,Ya7 i a.size,fun k u j=>c.cell (g k u j) id⟩
end Go.Proofs.YtegljjbclladdaaGreatDoor
namespace Go.Proofs.YtegljjbclladdaaGreatDoor
open Go.ChangeShapes Go.WideShapes Go.ChangeAt Go.RowKit Go.Lib Go.WideMaps Go.WideElems Go.Deep Proofs.Tryz
instance:Inhabited Ins:=⟨⟨[],0,[]⟩⟩
instance:Inhabited Fld:=⟨⟨[],[],false⟩⟩
instance:Inhabited Cat:=⟨⟨0,0,0,[]⟩⟩
instance:Inhabited Mth:=⟨⟨[],[],[],false,0,[],[]⟩⟩
instance:Inhabited Cls:=⟨⟨[],[],[],false,false,false,[],[]⟩⟩
def Cls.real (c:Cls):Prop:=c.held/\c.Fit/\∀m∈c.mths,∀a∈m.code,Zaw a.op
end Go.Proofs.YtegljjbclladdaaGreatDoor
namespace Go.Proofs.YtegljjbclladdaaGreatDoor
open Go.RowKit Proofs.Tryz
theorem Vals.keep {A:Nat->Prop}{w w':World}{cs:List Cls}{a:List CV}(b:Vals A w cs a)(d:Below w.heap.size w w'):Vals A w' cs a:=
 ⟨b.len,fun k c f=>by obtain⟨u,h,g⟩:=b.each k c f;exact⟨u,h,ClsR.st.keep g (Yae (S:=fun _=>False) d) (fun _ _=>id)⟩⟩
end Go.Proofs.YtegljjbclladdaaGreatDoor
namespace Go.Proofs.YtegljjbclladdaaGreatDoor
open Go.ChangeShapes Go.WideShapes Go.ChangeAt Go.RowKit Go.Lib Go.WideMaps Go.WideElems Go.Deep Proofs.Tryz
theorem ZtL {q:Type}{enc:TypeId×Value->q}{w:World}{held:Bool}{v:Value}{d:DataW q}{p:List MemPlace}{base:Nat}(b:Value.okWide prog w .any base 30 v)
  (r:DataW.Trod enc prog w 0 (fun _=>true) held 30 v d p):∃s:Shp,s.real/\ShpR Anyw w s v:=by
 obtain⟨cs,rfl,a⟩:=okWide_struct underlying30 b;obtain⟨n,h⟩:=r;rw[Zo0]at a;have k:(Value.agg cs).cells.toList=cs.toList:=rfl;rw[k]at h;obtain⟨c,m,v,b,i⟩:=ZhK (by simpa using a) h;refine⟨c,m,?_⟩;obtain⟨f,g,rfl,j,l⟩:=b;have:cs=(Value.agg #[.bool c.seen,f,g]).cells:=Yce.1 i.symm;rw[this];exact⟨f,g,rfl,j,l⟩
end Go.Proofs.YtegljjbclladdaaGreatDoor
namespace Go.Proofs.YtegljjbclladdaaGreatDoor
open Go.ChangeShapes Go.WideShapes Go.ChangeAt Go.RowKit Go.Lib Go.WideMaps Go.WideElems Go.Deep Proofs.Tryz
theorem Ztw {n:Type}{enc:TypeId×Value->n}{w:World}{held:Bool}{v:Value}{d:DataW n}{p:List MemPlace}{base:Nat}(h:Value.okWide prog w .any base 22 v)
  (q:DataW.Trod enc prog w 0 (fun _=>true) held 22 v d p):∃l:List (List UInt8),Src 1 StrR Anyw w v l/\(∀z∈l,Zaw z)/\l.length<=9223372036854775807:=by
 obtain⟨c,len,a,rfl⟩:=okWide_slice underlying22 h;obtain⟨m,j⟩:=q;obtain⟨u,l,b,i,f,k⟩:=ZeR j;have g:(Value.slice c len a).cells.toList=[Value.slice c len a]:=rfl;rw[g]at b;simp only[YaT,and_true]at b;exact⟨l,b▸i,f,k⟩
end Go.Proofs.YtegljjbclladdaaGreatDoor
namespace Go.Proofs.YtegljjbclladdaaGreatDoor
open Go.RowKit Proofs.Tryz
theorem Zjj (l:List (List UInt8)):samB ZbD l l=true:=by
 unfold samB;rw[Yas rfl,YaG];induction l with
 |nil=>rfl
 |cons x b a=>rw[List.zip_cons_cons,Ycg,a];simp[ZbD]
theorem Shp.eq_refl (s:Shp):s.eqB s=true:=by
 unfold Shp.eqB;rw[Zjj,Zjj];simp
theorem OpM.deep {o:OpM}{s:Shp}(u:List (List UInt8))(n:(o.res s).2=0) :
  o.res ⟨true,u++s.stk,s.loc⟩=if 24<(o.res s).1.stk.length+u.length then(Shp.zero,72)else(⟨true,u++(o.res s).1.stk,(o.res s).1.loc⟩,0):=by
 obtain⟨f,l,g,i,k⟩:=o.at_ok n;have d:(u++s.stk).length-o.m=u.length+(s.stk.length-o.m):=by rw[Yal];omega
 have c:(u++s.stk).drop ((u++s.stk).length-o.m)=s.stk.drop (s.stk.length-o.m):=by
  rw[d,List.drop_append,Ycr (by omega),Ybq]
  congr 1
  omega
 have j:(u++s.stk).take ((u++s.stk).length-o.m)=u++s.stk.take (s.stk.length-o.m):=by
  rw[d,List.take_append,Yaz (by omega)]
  congr 2
  omega
 have a:Zdz o.m (u++s.stk) (o.e0 s.loc)=0:=by rw[f];exact Zli (by rw[Yal];omega)
 have h:Zb7 o.m (u++s.stk) (o.e0 s.loc)=s.stk.drop (s.stk.length-o.m):=by unfold Zb7;rw[Yay a,c]
 have es:Zb4 o.m (u++s.stk) (o.e0 s.loc)=u++s.stk.take (s.stk.length-o.m):=by unfold Zb4;rw[Yay a,j]
 have er:o.er (u++s.stk) s.loc=0:=by unfold OpM.er Zc2;rw[Yay a,c];exact g
 rw[i];unfold OpM.res;show doR (o.stk (u++s.stk) s.loc) (o.loc (u++s.stk) s.loc) (o.er (u++s.stk) s.loc)=_;rw[er];unfold OpM.stk OpM.loc doR;rw[h,es,Yar (by decide),YaY];simp only[Yal];by_cases b:24<u.length+((s.stk.take (s.stk.length-o.m)).length+(o.put (s.stk.drop (s.stk.length-o.m)) s.loc).length)
 ·rw[Yay b,Yay (by omega)]
 ·rw[Yar b,Yar (by omega)]
theorem Zlf {lo:Nat}{W:World}(a:lo<=W.heap.size):KR lo (W.alloc (.cells #[] 9)) (.slice (some ⟨W.heap.size,0,none⟩) 0 0) []:=
 ⟨by simp,.inr ⟨W.heap.size,0,#[],rfl,a,heap_alloc_new W _,Yad _,Yao _,by simp,by simp⟩⟩
theorem Zjk {lo:Nat}{W b:World}{v f a:Value}{l2:List (List UInt8)}(h:KR lo W a l2)(d:Grew W v b f)(c:∀g,a.ownBlock=some g->v.ownBlock≠some g):KR lo b a l2:=by
 exact KRF.keep h d.only c
theorem Zle {lo:Nat}{A:Nat->Prop}{W:World}{v sv:Value}{l xs:List (List UInt8)}(s:KR lo W v l)(m:lo<=W.heap.size)(r:Src 1 StrR A W sv xs)(y:l.length+xs.length<=1048576)(ty:TypeId) :
  ∃d w',(Builtin.append_ #[22,22] ty #[v,sv]).run prog W=.ok d w'/\KR lo w' d (l++xs)/\Grew W v w' d:=by
 obtain⟨g,c,h,f,j⟩:=info_parts ZcS;rcases r with⟨q,a,rfl,rfl⟩|⟨b,o,a,rfl,_,n⟩
 ·rw[YaN];exact⟨v,W,Zbf W 22 ty 9 g 1 underlying22 c v l.length (l.map strV) (Zdb s (Yao _)) q a,s,Grew.refl _ _⟩
 ·exact KRF.append (P:=prog) ZeY 22 ty g _ 16 underlying22 c h f j rfl s m rfl (fun k x t=>by
   obtain⟨u,p,w,i⟩:=n k x t;obtain rfl:u=strV x:=p;have:=i 0 (strV x) rfl;rw[YaH,YbO]at this;exact this) (by omega) (by omega)
structure DX (w0:World) (v1:Value) (l1:List (List UInt8)) (v2:Value) (l2:List (List UInt8)) (b:Option Nat) (W:World):Prop where
 bel:Below w0.heap.size w0 W
 k1:KR w0.heap.size W v1 l1
 k2:KR w0.heap.size W v2 l2
 dj:∀g,v1.ownBlock=some g->v2.ownBlock≠some g
 bx:∀B,b=some B->w0.heap.size<=B/\Box W B #[.bool false,.slice none 0 0,.slice none 0 0] 30/\v1.ownBlock≠some B/\v2.ownBlock≠some B
section
variable {w0 W W':World}{v1 v2:Value}{l1 l2:List (List UInt8)}{b:Option Nat}
theorem Zqu (a:Below W.heap.size W W')(c:DX w0 v1 l1 v2 l2 b W):DX w0 v1 l1 v2 l2 b W':=
 ⟨c.bel.trans (a.mono c.bel.size),c.k1.below a,c.k2.below a,c.dj,fun B d=>⟨(c.bx B d).1,(c.bx B d).2.1.below a,(c.bx B d).2.2⟩⟩
theorem ZfP (a:DX w0 v1 l1 v2 l2 b W):DX w0 v1 l1 v2 l2 b W.drew:=Zqu (Zab (Yab _ _)) a
theorem ZnX (a:World):DX a (.slice none 0 0) [] (.slice none 0 0) [] none a:=⟨Yab _ _,KRF.nil _ _ _ _,KRF.nil _ _ _ _,fun g b=>(by cases b),fun B c=>(by cases c)⟩
theorem Zis {B:Nat}(c:B=W.heap.size)(a:DX w0 v1 l1 v2 l2 none W):DX w0 v1 l1 v2 l2 (some B) (W.alloc (.cells #[.bool false,.slice none 0 0,.slice none 0 0] 30)):=by
 subst c;have b:Below W.heap.size W (W.alloc (.cells #[.bool false,.slice none 0 0,.slice none 0 0] 30)):=Zaa (Yab _ _) _;refine⟨a.bel.trans (b.mono a.bel.size),a.k1.below b,a.k2.below b,a.dj,fun B e=>?_⟩;obtain rfl:W.heap.size=B:=Yac e;exact⟨a.bel.size,Box.new W _ _,fun e=>by have:=(a.k1.own _ e).2;omega,fun e=>by have:=(a.k2.own _ e).2;omega⟩
theorem ZfQ {B:Nat}(f:B=W.heap.size)(a:DX w0 (.slice none 0 0) [] v2 l2 b W):DX w0 (.slice (some ⟨B,0,none⟩) 0 0) [] v2 l2 b (W.alloc (.cells #[] 9)):=by
 subst f;have c:Below W.heap.size W (W.alloc (.cells #[] 9)):=Zaa (Yab _ _) _;refine⟨Zaa a.bel _,Zlf a.bel.size,a.k2.below c,fun g h e=>?_,fun B e=>⟨(a.bx B e).1,(a.bx B e).2.1.below c,fun i=>?_,(a.bx B e).2.2.2⟩⟩
 ·have d:=(a.k2.own g e).2;obtain rfl:W.heap.size=g:=Yac h;omega
 ·have d:=(a.bx B e).2.1.lt;obtain rfl:W.heap.size=B:=Yac i;omega
theorem ZfR {B:Nat}(f:B=W.heap.size)(a:DX w0 v1 l1 (.slice none 0 0) [] b W):DX w0 v1 l1 (.slice (some ⟨B,0,none⟩) 0 0) [] b (W.alloc (.cells #[] 9)):=by
 subst f;have c:Below W.heap.size W (W.alloc (.cells #[] 9)):=Zaa (Yab _ _) _;refine⟨Zaa a.bel _,a.k1.below c,Zlf a.bel.size,fun g e h=>?_,fun B e=>⟨(a.bx B e).1,(a.bx B e).2.1.below c,(a.bx B e).2.2.1,fun i=>?_⟩⟩
 ·have d:=(a.k1.own g e).2;obtain rfl:W.heap.size=g:=Yac h;omega
 ·have d:=(a.bx B e).2.1.lt;obtain rfl:W.heap.size=B:=Yac i;omega
theorem DX.app1 (h:DX w0 v1 l1 v2 l2 b W){sv:Value}{xs:List (List UInt8)}(v:Src 1 StrR Anyw w0 sv xs)(w:l1.length+xs.length<=1048576)(ty:TypeId) :
  ∃d w',(Builtin.append_ #[22,22] ty #[v1,sv]).run prog W=.ok d w'/\(∃u c,d=.slice u (l1++xs).length c)/\DX w0 d (l1++xs) v2 l2 b w':=by
 obtain⟨d,w',t,n,f⟩:=Zle h.k1 h.bel.size (StrR.st.below v h.bel) w ty;refine⟨d,w',t,n.shape,⟨h.bel.trans (f.only.below h.bel.size (fun i s=>(h.k1.own i s).1)),n,Zjk h.k2 f (fun g q a=>h.dj g a q),fun g j e=>?_,fun B e=>?_⟩⟩
 ·rcases f.came with l|l
  ·exact h.dj g (l▸j) e
  ·have m:=l g j;have k:=(h.k2.own g e).2;omega
 ·obtain⟨m,k,p,r⟩:=h.bx B e;refine⟨m,k.keep f.only (fun a=>p a),fun a=>?_,r⟩;rcases f.came with l|l
  ·exact p (l▸a)
  ·have y:=l B a;have x:=k.lt;omega
theorem DX.app2 (h:DX w0 v1 l1 v2 l2 b W){sv:Value}{xs:List (List UInt8)}(v:Src 1 StrR Anyw w0 sv xs)(w:l2.length+xs.length<=1048576)(ty:TypeId) :
  ∃d w',(Builtin.append_ #[22,22] ty #[v2,sv]).run prog W=.ok d w'/\(∃t c,d=.slice t (l2++xs).length c)/\DX w0 v1 l1 d (l2++xs) b w':=by
 obtain⟨d,w',s,p,f⟩:=Zle h.k2 h.bel.size (StrR.st.below v h.bel) w ty;refine⟨d,w',s,p.shape,⟨h.bel.trans (f.only.below h.bel.size (fun i r=>(h.k2.own i r).1)),Zjk h.k1 f (fun g q a=>h.dj g q a),p,fun g j e=>?_,fun B e=>?_⟩⟩
 ·rcases f.came with l|l
  ·exact h.dj g j (l▸e)
  ·have n:=l g e;have k:=(h.k1.own g j).2;omega
 ·obtain⟨n,k,u,m⟩:=h.bx B e;refine⟨n,k.keep f.only (fun a=>m a),u,fun a=>?_⟩;rcases f.came with l|l
  ·exact m (l▸a)
  ·have y:=l B a;have x:=k.lt;omega
theorem DX.cells {B:Nat}(b:DX w0 v1 l1 v2 l2 (some B) W):(W.cell? ⟨B,0,none⟩=some (.bool false)/\W.cell? ⟨B,1,none⟩=some (.slice none 0 0)/\W.cell? ⟨B,2,none⟩=some (.slice none 0 0))/\W.frozen? ⟨B,0,none⟩=false/\W.frozen? ⟨B,1,none⟩=false/\W.frozen? ⟨B,2,none⟩=false/\w0.heap.size<=B:=by
 have a:=(b.bx B rfl).2.1;exact⟨⟨a.cell 0 rfl,a.cell 1 rfl,a.cell 2 rfl⟩,a.free 0,a.free 1,a.free 2,(b.bx B rfl).1⟩
theorem DX.store {B:Nat}(c:DX w0 v1 l1 v2 l2 (some B) W)(z:Value) :
  Box (((W.setCell ⟨B,0,none⟩ (.bool true)).setCell ⟨B,1,none⟩ v1).setCell ⟨B,2,none⟩ z) B #[.bool true,v1,z] 30/\Below w0.heap.size w0 (((W.setCell ⟨B,0,none⟩ (.bool true)).setCell ⟨B,1,none⟩ v1).setCell ⟨B,2,none⟩ z)/\
   Src 1 StrR Anyw (((W.setCell ⟨B,0,none⟩ (.bool true)).setCell ⟨B,1,none⟩ v1).setCell ⟨B,2,none⟩ z) v1 l1/\Src 1 StrR Anyw (((W.setCell ⟨B,0,none⟩ (.bool true)).setCell ⟨B,1,none⟩ v1).setCell ⟨B,2,none⟩ z) v2 l2:=by
 obtain⟨d,h,f,j⟩:=c.bx B rfl;have b:Only (fun i=>i=B) W (((W.setCell ⟨B,0,none⟩ (.bool true)).setCell ⟨B,1,none⟩ v1).setCell ⟨B,2,none⟩ z):=
  (((Yak (fun i=>i=B) W).setCell (p:=⟨B,0,none⟩) rfl _).setCell (p:=⟨B,1,none⟩) rfl _).setCell (p:=⟨B,2,none⟩) rfl _
 exact⟨((h.set 0 (.bool true)).set 1 v1).set 2 z,c.bel.trans (b.below c.bel.size (fun i e=>by rw[e];exact d)),
  StrR.st.any ((c.k1.keep b (fun g a e=>f (e▸a))).src Za2),StrR.st.any ((c.k2.keep b (fun g a e=>j (e▸a))).src Za2)⟩
theorem Zs8 {c lo:Option Addr}{n b m a B:Nat}(q:DX w0 (.slice c n b) l1 (.slice lo m a) l2 (some B) W):∃i f d h g,Value.pointer (some ⟨B,0,none⟩)=.pointer (some ⟨i,0,none⟩)/\
  Box (((W.setCell ⟨B,0,none⟩ (.bool true)).setCell ⟨B,1,none⟩ (.slice c n b)).setCell ⟨B,2,none⟩ (.slice lo m a)) i #[.bool true,.slice f n d,.slice h m g] 30/\Below w0.heap.size w0 (((W.setCell ⟨B,0,none⟩ (.bool true)).setCell ⟨B,1,none⟩ (.slice c n b)).setCell ⟨B,2,none⟩ (.slice lo m a))/\
   Src 1 StrR Anyw (((W.setCell ⟨B,0,none⟩ (.bool true)).setCell ⟨B,1,none⟩ (.slice c n b)).setCell ⟨B,2,none⟩ (.slice lo m a)) (.slice f n d) l1/\Src 1 StrR Anyw (((W.setCell ⟨B,0,none⟩ (.bool true)).setCell ⟨B,1,none⟩ (.slice c n b)).setCell ⟨B,2,none⟩ (.slice lo m a)) (.slice h m g) l2:=by
 obtain⟨j,l,k,p⟩:=q.store (.slice lo m a);exact⟨_,_,_,_,_,rfl,j,l,k,p⟩
theorem Zr7 {b lo:Option Addr}{n a m c B:Nat}(l:B=W.heap.size)(k:DX w0 (.slice b n a) l1 (.slice lo m c) l2 none W):∃j f d h g,Value.pointer (some ⟨B,0,none⟩)=.pointer (some ⟨j,0,none⟩)/\
  Box (W.alloc (.cells #[.bool true,.slice b n a,.slice lo m c] 30)) j #[.bool true,.slice f n d,.slice h m g] 30/\Below w0.heap.size w0 (W.alloc (.cells #[.bool true,.slice b n a,.slice lo m c] 30))/\
   Src 1 StrR Anyw (W.alloc (.cells #[.bool true,.slice b n a,.slice lo m c] 30)) (.slice f n d) l1/\Src 1 StrR Anyw (W.alloc (.cells #[.bool true,.slice b n a,.slice lo m c] 30)) (.slice h m g) l2:=by
 subst l;have i:Below W.heap.size W (W.alloc (.cells #[.bool true,.slice b n a,.slice lo m c] 30)):=Zaa (Yab _ _) _;exact⟨_,_,_,_,_,rfl,Box.new W _ _,k.bel.trans (i.mono k.bel.size),StrR.st.any ((k.k1.below i).src Za2),StrR.st.any ((k.k2.below i).src Za2)⟩
theorem Zr8 {b:Option Addr}{n a B:Nat}(z:Value)(j:DX w0 (.slice b n a) l1 v2 l2 (some B) W):∃f d c,Value.pointer (some ⟨B,0,none⟩)=.pointer (some ⟨f,0,none⟩)/\
  Box (((W.setCell ⟨B,0,none⟩ (.bool true)).setCell ⟨B,1,none⟩ (.slice b n a)).setCell ⟨B,2,none⟩ z) f #[.bool true,.slice d n c,z] 30/\Below w0.heap.size w0 (((W.setCell ⟨B,0,none⟩ (.bool true)).setCell ⟨B,1,none⟩ (.slice b n a)).setCell ⟨B,2,none⟩ z)/\
   Src 1 StrR Anyw (((W.setCell ⟨B,0,none⟩ (.bool true)).setCell ⟨B,1,none⟩ (.slice b n a)).setCell ⟨B,2,none⟩ z) (.slice d n c) l1:=by
 obtain⟨g,i,h,_⟩:=j.store z;exact⟨_,_,_,rfl,g,i,h⟩
theorem Zr9 {b:Option Addr}{n a B:Nat}(h:B=W.heap.size)(z:Value)(i:DX w0 (.slice b n a) l1 v2 l2 none W):∃g d c,Value.pointer (some ⟨B,0,none⟩)=.pointer (some ⟨g,0,none⟩)/\
  Box (W.alloc (.cells #[.bool true,.slice b n a,z] 30)) g #[.bool true,.slice d n c,z] 30/\Below w0.heap.size w0 (W.alloc (.cells #[.bool true,.slice b n a,z] 30))/\
   Src 1 StrR Anyw (W.alloc (.cells #[.bool true,.slice b n a,z] 30)) (.slice d n c) l1:=by
 subst h;have f:Below W.heap.size W (W.alloc (.cells #[.bool true,.slice b n a,z] 30)):=Zaa (Yab _ _) _;exact⟨_,_,_,rfl,Box.new W _ _,i.bel.trans (f.mono i.bel.size),StrR.st.any ((i.k1.below f).src Za2)⟩
end
theorem Zih {a W:World}{B k:Nat}{v:Value}(c:Below a.heap.size a W)(b:a.heap.size<=B):Below a.heap.size a (W.setCell ⟨B,k,none⟩ v):=c.setCell b _
theorem Zey (w:World)(o:Obj):(w.alloc o).heap.size=w.heap.size+1:=by simp
theorem ZfO (w:World):w.drew.heap.size=w.heap.size:=rfl
section
variable {ops:Array Oper}{o:Oper}{a:Act}{w w0:World}{K:Act->World->Prop}{Q:Exit->Act->World->Prop}{E:Prop}{sv v1 v2:Value}{l1 l2:List (List UInt8)}{b:Option Nat}
theorem Zfy (f:Value)(xs h:List (List UInt8))(l:Nat)(j:o.guard=none)(s x:Operand)(q:o.op=.call { callee:=.builtin .append,args:=#[s,x],argTypes:=#[22,22] })
  (p:a.eval s=sv)(m:a.eval x=f)(n:DX w0 sv l1 v2 l2 b w)(g:Src 1 StrR Anyw w0 f xs)(t:l1++xs=h)(u:h.length=l)(k:l<=1048576)(y:∀d c w',DX w0 (.slice d l c) h v2 l2 b w'->K (a.put o.dst (.slice d l c)) w') :
  if Region.wanted o (yielded ops a.tmps)=true then Oper.wp prog o a w K Q else E:=by
 subst t u;obtain⟨v,w',r,⟨d,c,rfl⟩,i⟩:=n.app1 g (by rw[←Yal];exact k) o.type;exact ZaK j s x 22 q sv f _ w' p m r (y d c w' i)
theorem Zrp (f:Value)(xs h:List (List UInt8))(l:Nat)(j:o.guard=none)(s x:Operand)(q:o.op=.call { callee:=.builtin .append,args:=#[s,x],argTypes:=#[22,22] })
  (p:a.eval s=sv)(m:a.eval x=f)(n:DX w0 v1 l1 sv l2 b w)(g:Src 1 StrR Anyw w0 f xs)(t:l2++xs=h)(u:h.length=l)(k:l<=1048576)(y:∀d c w',DX w0 v1 l1 (.slice d l c) h b w'->K (a.put o.dst (.slice d l c)) w') :
  if Region.wanted o (yielded ops a.tmps)=true then Oper.wp prog o a w K Q else E:=by
 subst t u;obtain⟨v,w',r,⟨d,c,rfl⟩,i⟩:=n.app2 g (by rw[←Yal];exact k) o.type;exact ZaK j s x 22 q sv f _ w' p m r (y d c w' i)
end
def Shp.on (u:List (List UInt8))(s:Shp):Shp:=⟨true,u++s.stk,s.loc⟩
theorem OpM.keeps {o:OpM}{s:Shp}(b:o.setl=none)(c:(o.res s).2=0):(o.res s).1.loc=s.loc:=by
 obtain⟨_,_,_,a,_⟩:=o.at_ok c;rw[a];show(match o.setl with|none=>s.loc|some n=>s.loc.set n ((s.stk.drop (s.stk.length-o.m)).getD 0 []))=s.loc;rw[b]
theorem Zqe {O T:Nat}{B:Nat->Nat}{A:Nat->Prop}{g:World}(ok:NewOk cls7)(Q:Tab A g O T B (newT cls7))(d z j i:List UInt8)(n:Int)(L:¬refT d<0)(aa:j.length<=100)(Z:i.length<=200)(v C m:Option Addr)(t p y q l w:Nat)(D:Bool)(r:Int)
  (s:Shp)(b:s.Few)(u:List (List UInt8))(ac:u.length<=10)(U:∀x∈u,x.length<=100):∃c F:Shp×Nat,
   (∀(sv:Value) (W:World),Below g.heap.size g W->ShpR Anyw W s sv->Calls prog 9 #[.pointer (some ⟨O,0,none⟩),.agg #[.string (S z),.slice v t p,.string (S j),.bool D,.int .i64 r,.slice C y q,.slice m l w],.agg #[.string (S d),.int .i64 n,.string (S i)],sv] W (DoG c W))/\
   (∀(sv:Value) (W:World),Below g.heap.size g W->ShpR Anyw W (s.on u) sv->Calls prog 9 #[.pointer (some ⟨O,0,none⟩),.agg #[.string (S z),.slice v t p,.string (S j),.bool D,.int .i64 r,.slice C y q,.slice m l w],.agg #[.string (S d),.int .i64 n,.string (S i)],sv] W (DoG F W))/\
   (c.2=0->c.1.stk.length<=24/\c.1.loc.length=s.loc.length/\(24<c.1.stk.length+u.length->F.2=72)/\(c.1.stk.length+u.length<=24->F=(c.1.on u,0))/\(d=Zji\/c.1.loc=s.loc)):=by
 obtain⟨o,ad,R,f,M⟩:=ZkK ok Q d z j i n L (by omega) (by omega) v C m t p y q l w D r;have ab:=b.n1;have K:=b.n2;have N:(u++s.stk).length<=50:=by rw[Yal];omega
 have J:∀x∈u++s.stk,x.length<=100:=fun x a=>by
  rcases Yaq.1 a with V|V
  ·exact U x V
  ·exact b.k1 x V
 have H:(s.on u).Small:=⟨Yaj N (by decide),Yaj K (by decide),fun x a=>Yaj (J x a) (by decide),fun x a=>Yaj (b.k2 x a) (by decide)⟩;refine⟨o.res s,o.res (s.on u),fun sv W k E=>M s sv W k E b.small (by omega) (by omega) (fun x a=>by have:=b.k1 x a;omega) (fun x a=>by have:=b.k2 x a;omega),fun sv W k E=>M (s.on u) sv W k E H (Yaj N (by decide)) (Yaj K (by decide)) (fun x a=>Yaj (J x a) (by decide)) (fun x a=>Yaj (b.k2 x a) (by decide)),fun h=>?_⟩;obtain⟨_,Y,X⟩:=ZkL h;have P:(o.res s).1.stk.length<=24:=by unfold OpM.res;rw[X];exact Y
 obtain⟨_,l2,_⟩:=OpM.len R h;have I:o.res (s.on u)=_:=OpM.deep u h;refine⟨P,l2,fun G=>?_,fun G=>?_,?_⟩
 ·rw[I,Yay G]
 ·rw[I,Yar (by omega)];rfl
 ·rcases f with f|f
  ·exact .inr (OpM.keeps f h)
  ·exact .inl f
theorem Zh2 (ay q g l:List UInt8)(n aw:Int)(aj ao aq:Option Addr)(ak al ax am au ah:Nat)(ag:Bool)(a:Shp)(u:List (List UInt8))(ab I cz:Option Addr)(X U bW:Nat)(w:World)
  (dT:ShpR Anyw w a (.agg #[.bool a.seen,.slice ab a.stk.length X,.slice I a.loc.length U]))(bM:a.Fit)(eh:Src 1 StrR Anyw w (.slice cz u.length bW) u)(d6:u.length<=9223372036854775807)(c7:∀x∈u,Zaw x)(bV:HT6 w)(eZ:l.length<=9223372036854775807)(eX:q.length<=9223372036854775807) :
  Calls prog 4 #[.agg #[.string (S ay),.slice aj ak al,.string (S q),.bool ag,.int .i64 aw,.slice ao ax am,.slice aq au ah],.agg #[.string (S g),.int .i64 n,.string (S l)],.agg #[.bool a.seen,.slice ab a.stk.length X,.slice I a.loc.length U],.slice cz u.length bW] w (Said true w):=by
 have ck:Hid (∀W,Below w.heap.size w W->Calls prog 5 #[] W (Zen W)):=Hd (fun W aH=>Zeu W (bV.ft.keep aH) (bV.ct.keep aH));have bk:Hid (∀W,Below w.heap.size w W->Calls prog 6 #[] W (Said true W)):=Hd (fun W aH=>ZgH W (bV.ft.keep aH) (bV.ct.keep aH));have b8:Hid (∀W,Below w.heap.size w W->Calls prog 7 #[.agg #[.bool a.seen,.slice ab a.stk.length X,.slice I a.loc.length U]] W (ZfA a W)):=Hd (fun W aH=>Zhr a _ W (ShpR.below dT aH) bM);have db:Hid (∀W,Calls prog 8 #[.string (S g)] W fun e w'=>e=.returned (.int .i64 (refT g))/\Below W.heap.size W w'):=Hd (fun W=>ZaM g W);have ci:Hid (∀(dd cO:Nat) (B:Nat->Nat) (A:Nat->Prop) (bP:World),NewOk cls7->Tab A bP dd cO B (newT cls7)->¬refT g<0->q.length<=100->l.length<=200->a.Few->u.length<=10->(∀x∈u,x.length<=100)->∃h ar:Shp×Nat,(∀(sv:Value) (W:World),Below bP.heap.size bP W->ShpR Anyw W a sv->Calls prog 9 #[.pointer (some ⟨dd,0,none⟩),.agg #[.string (S ay),.slice aj ak al,.string (S q),.bool ag,.int .i64 aw,.slice ao ax am,.slice aq au ah],.agg #[.string (S g),.int .i64 n,.string (S l)],sv] W (DoG h W))/\(∀(sv:Value) (W:World),Below bP.heap.size bP W->ShpR Anyw W (a.on u) sv->Calls prog 9 #[.pointer (some ⟨dd,0,none⟩),.agg #[.string (S ay),.slice aj ak al,.string (S q),.bool ag,.int .i64 aw,.slice ao ax am,.slice aq au ah],.agg #[.string (S g),.int .i64 n,.string (S l)],sv] W (DoG ar W))/\(h.2=0->h.1.stk.length<=24/\h.1.loc.length=a.loc.length/\(24<h.1.stk.length+u.length->ar.2=72)/\(h.1.stk.length+u.length<=24->ar=(h.1.on u,0))/\(g=Zji\/h.1.loc=a.loc))):=Hd (fun dd cO B A bP ok cS dX d8 ed dO cp ec=>Zqe ok cS g ay q l n dX d8 ed aj ao aq ak al ax am au ah ag aw a dO u cp ec);have bc:Hid (∀W,Below w.heap.size w W->ShpR Anyw W a (.agg #[.bool a.seen,.slice ab a.stk.length X,.slice I a.loc.length U])):=Hd (fun W aH=>ShpR.below dT aH);have aM:Hid (∀W,Below w.heap.size w W->Src 1 StrR Anyw W (.slice cz u.length bW) u):=Hd (fun W aH=>StrR.st.below eh aH);have dZ:Hid (a.stk.length<=9223372036854775807/\a.loc.length<=9223372036854775807):=Hd ⟨bM.1,bM.2⟩;have b5:Hid (a.Few->a.stk.length<=40/\a.loc.length<=40):=Hd (fun cw=>⟨cw.n1,cw.n2⟩);have dc:=Hd c7;clear dT bM bV eh c7;obtain⟨c,cG⟩:∃m,m=u.length:=⟨_,rfl⟩
 rw[←cG]at aM d6⊢;have ae:=Hd cG;clear cG;generalize aD:a.seen=bO at *;generalize dj:a.stk.length=E at *;generalize c5:a.loc.length=y at *;have bm:=Hd dj;have bn:=Hd c5;clear aD dj c5;unfold Said at bk;unfold Zen at ck;unfold ZfA at b8;unfold DoG at ci;unfold Said;have b2:Box (((w.alloc (.cells #[.string (S ay),.slice aj ak al,.string (S q),.bool ag,.int .i64 aw,.slice ao ax am,.slice aq au ah] 26)).alloc (.cells #[.string (S g),.int .i64 n,.string (S l)] 28)).alloc (.cells #[.bool bO,.slice ab E X,.slice I y U] 30)) w.heap.size #[.string (S ay),.slice aj ak al,.string (S q),.bool ag,.int .i64 aw,.slice ao ax am,.slice aq au ah] 26:=by unfold Box;repeat (first|(exact Zam _ _ _ (by simp))|(with_reducible apply Zaz))
 have cB:Box (((w.alloc (.cells #[.string (S ay),.slice aj ak al,.string (S q),.bool ag,.int .i64 aw,.slice ao ax am,.slice aq au ah] 26)).alloc (.cells #[.string (S g),.int .i64 n,.string (S l)] 28)).alloc (.cells #[.bool bO,.slice ab E X,.slice I y U] 30)) (w.heap.size+1) #[.string (S g),.int .i64 n,.string (S l)] 28:=by unfold Box;repeat (first|(exact Zam _ _ _ (by simp))|(with_reducible apply Zaz))
 have bZ:Box (((w.alloc (.cells #[.string (S ay),.slice aj ak al,.string (S q),.bool ag,.int .i64 aw,.slice ao ax am,.slice aq au ah] 26)).alloc (.cells #[.string (S g),.int .i64 n,.string (S l)] 28)).alloc (.cells #[.bool bO,.slice ab E X,.slice I y U] 30)) (w.heap.size+1+1) #[.bool bO,.slice ab E X,.slice I y U] 30:=by unfold Box;repeat (first|(exact Zam _ _ _ (by simp))|(with_reducible apply Zaz))
 have bT:Below w.heap.size w (((w.alloc (.cells #[.string (S ay),.slice aj ak al,.string (S q),.bool ag,.int .i64 aw,.slice ao ax am,.slice aq au ah] 26)).alloc (.cells #[.string (S g),.int .i64 n,.string (S l)] 28)).alloc (.cells #[.bool bO,.slice ab E X,.slice I y U] 30)):=Zaa (Zaa (Zaa (Yab _ _) _) _) _;obtain⟨fe,bX⟩:∃V,V=(((w.alloc (.cells #[.string (S ay),.slice aj ak al,.string (S q),.bool ag,.int .i64 aw,.slice ao ax am,.slice aq au ah] 26)).alloc (.cells #[.string (S g),.int .i64 n,.string (S l)] 28)).alloc (.cells #[.bool bO,.slice ab E X,.slice I y U] 30)):=⟨_,rfl⟩
 rw[←bX]at b2 cB bZ bT;have bF:=Hd bT;have dk:=Hd b2;have dr:=Hd cB;have c0:=Hd bZ;clear b2 cB bZ bT;go_enter func4,ntmps4
 go_upto_region 1 with fail;rw[←bX];clear bX;go_wp2_with fail;with_reducible refine(ck.o _ bF.o).mono ?_
 rintro e ch⟨ok,dd,cO,B,A,e5,rfl,cS,_,bi⟩;obtain⟨h,ar,b9⟩:∃h ar:Shp×Nat,Hid (¬refT g<0->q.length<=100->l.length<=200->a.Few->c<=10->(∀x∈u,x.length<=100)->(∀(sv:Value) (W:World),Below ch.heap.size ch W->ShpR Anyw W a sv->Calls prog 9 #[.pointer (some ⟨dd,0,none⟩),.agg #[.string (S ay),.slice aj ak al,.string (S q),.bool ag,.int .i64 aw,.slice ao ax am,.slice aq au ah],.agg #[.string (S g),.int .i64 n,.string (S l)],sv] W (fun e w'=>∃v,e=.returned (.tuple #[v,.int .i64 (h.2:Nat)])/\ShpR Anyw w' h.1 v/\Below W.heap.size W w'))/\(∀(sv:Value) (W:World),Below ch.heap.size ch W->ShpR Anyw W (a.on u) sv->Calls prog 9 #[.pointer (some ⟨dd,0,none⟩),.agg #[.string (S ay),.slice aj ak al,.string (S q),.bool ag,.int .i64 aw,.slice ao ax am,.slice aq au ah],.agg #[.string (S g),.int .i64 n,.string (S l)],sv] W (fun e w'=>∃v,e=.returned (.tuple #[v,.int .i64 (ar.2:Nat)])/\ShpR Anyw w' ar.1 v/\Below W.heap.size W w'))/\(h.2=0->h.1.stk.length<=24/\h.1.loc.length=y/\(24<h.1.stk.length+c->ar.2=72)/\(h.1.stk.length+c<=24->ar=(h.1.on u,0))/\(g=Zji\/h.1.loc=a.loc))):=by
  by_cases es:¬refT g<0/\q.length<=100/\l.length<=200/\a.Few/\c<=10/\(∀x∈u,x.length<=100)
  ·obtain⟨cP,cm,cL,dI,dM,dS⟩:=es;obtain⟨h,ar,eb⟩:=ci.o dd cO B A ch ok cS (by omega) cm cL dI (by rw[←ae.o];exact dM) dS;rw[←ae.o]at eb;exact⟨h,ar,Hd (fun _ _ _ _ _ _=>eb)⟩
  ·exact⟨(Shp.zero,0),(Shp.zero,0),Hd (fun cP cm cL dI dM dS=>absurd ⟨cP,cm,cL,dI,dM,dS⟩ es)⟩
 have cN:=Hd (bF.o.trans (bi.mono bF.o.size));have dl:=Hd (dk.o.below bi);have dp:=Hd (dr.o.below bi);have c1:=Hd (c0.o.below bi);clear cS bi dk dr c0 ci ok bF;go_wp2_with fail;with_reducible refine(bk.o _ cN.o).mono ?_
 rintro e e3⟨rfl,aR⟩;have cK:=Hd (cN.o.trans (aR.mono cN.o.size));have dR:=Hd aR;have N:=Hd (dl.o.below aR);have ba:=Hd (dp.o.below aR);have bb:=Hd (c1.o.below aR);clear aR dl dp c1 cN;obtain⟨av,ap,Z⟩:_/\_/\_:=⟨bb.o.cell 0 rfl,bb.o.cell 1 rfl,bb.o.cell 2 rfl⟩;obtain⟨D,Q,ai⟩:_/\_/\_:=⟨ba.o.cell 0 rfl,ba.o.cell 1 rfl,ba.o.cell 2 rfl⟩;obtain⟨J,R,Y,K,G,M,F⟩:_/\_/\_/\_/\_/\_/\_:=⟨N.o.cell 0 rfl,N.o.cell 1 rfl,N.o.cell 2 rfl,N.o.cell 3 rfl,N.o.cell 4 rfl,N.o.cell 5 rfl,N.o.cell 6 rfl⟩
 go_wp2_with fail;with_reducible refine(b8.o _ cK.o).mono ?_
 rintro e e2⟨dO,rfl,bv,aL⟩;have b0:=Hd bv;clear bv;have aT:=Hd (cK.o.trans (aL.mono cK.o.size));have dL:=Hd (dR.o.trans (aL.mono dR.o.size));have T:=Hd (N.o.below aL);have bl:=Hd (ba.o.below aL);have bg:=Hd (bb.o.below aL);clear aL N ba bb cK dR av ap Z D Q ai J R Y K G M F;obtain⟨av,ap,Z⟩:_/\_/\_:=⟨bg.o.cell 0 rfl,bg.o.cell 1 rfl,bg.o.cell 2 rfl⟩;obtain⟨D,Q,ai⟩:_/\_/\_:=⟨bl.o.cell 0 rfl,bl.o.cell 1 rfl,bl.o.cell 2 rfl⟩;obtain⟨J,R,Y,K,G,M,F⟩:_/\_/\_/\_/\_/\_/\_:=⟨T.o.cell 0 rfl,T.o.cell 1 rfl,T.o.cell 2 rfl,T.o.cell 3 rfl,T.o.cell 4 rfl,T.o.cell 5 rfl,T.o.cell 6 rfl⟩;cases dO
 ·clear av ap Z D Q ai J R Y K G M F;go_wp2_with fail;with_reducible refine(bk.o _ aT.o).mono ?_
  rintro e cu⟨rfl,s⟩;have aF:=Hd (aT.o.trans (s.mono aT.o.size));clear s;go_wp2;go_ret;exact⟨rfl,aF.o⟩
 by_cases cc:c<=10
 case neg=>
  have cf:(10:Int)<(c:Int):=by omega
  clear cc av ap Z D Q ai J R Y K G M F;go_wp2_with fail;with_reducible refine(bk.o _ aT.o).mono ?_
  rintro e cu⟨rfl,s⟩;have aF:=Hd (aT.o.trans (s.mono aT.o.size));clear s;go_wp2;go_ret;exact⟨rfl,aF.o⟩
 have cf:¬(10:Int)<(c:Int):=by omega
 go_wp2_with fail;with_reducible refine(db.o _).mono ?_
 rintro e em⟨rfl,aO⟩;have C:=Hd (aT.o.trans (aO.mono aT.o.size));have dC:=Hd (dL.o.trans (aO.mono dL.o.size));have L:=Hd (T.o.below aO);have a4:=Hd (bl.o.below aO);have bd:=Hd (bg.o.below aO);clear aO T bl bg aT dL av ap Z D Q ai J R Y K G M F;obtain⟨av,ap,Z⟩:_/\_/\_:=⟨bd.o.cell 0 rfl,bd.o.cell 1 rfl,bd.o.cell 2 rfl⟩;obtain⟨D,Q,ai⟩:_/\_/\_:=⟨a4.o.cell 0 rfl,a4.o.cell 1 rfl,a4.o.cell 2 rfl⟩;obtain⟨J,R,Y,K,G,M,F⟩:_/\_/\_/\_/\_/\_/\_:=⟨L.o.cell 0 rfl,L.o.cell 1 rfl,L.o.cell 2 rfl,L.o.cell 3 rfl,L.o.cell 4 rfl,L.o.cell 5 rfl,L.o.cell 6 rfl⟩;obtain⟨ev,dg⟩:∃t,t=refT g:=⟨_,rfl⟩
 rw[←dg]at b9⊢;clear dg;by_cases dB:ev<0
 ·clear av ap Z D Q ai J R Y K G M F;go_wp2_with fail;with_reducible refine(bk.o _ C.o).mono ?_
  rintro e cu⟨rfl,s⟩;have aF:=Hd (C.o.trans (s.mono C.o.size));clear s;go_wp2;go_ret;exact⟨rfl,aF.o⟩
 by_cases aZ:l.length<=200
 case neg=>
  have O:(200:Int)<((S l).size:Int):=by rw[Zat];omega
  clear av ap Z D Q J R Y K G M F aZ;go_wp2_with fail;with_reducible refine(bk.o _ C.o).mono ?_
  rintro e cu⟨rfl,s⟩;have aF:=Hd (C.o.trans (s.mono C.o.size));clear s;go_wp2;go_ret;exact⟨rfl,aF.o⟩
 have O:¬(200:Int)<((S l).size:Int):=by rw[Zat];omega
 by_cases aX:q.length<=100
 case neg=>
  have c9:(100:Int)<((S q).size:Int):=by rw[Zat];omega
  clear av ap Z D Q J R K G M F aX;go_wp2_with fail;with_reducible refine(bk.o _ C.o).mono ?_
  rintro e cu⟨rfl,s⟩;have aF:=Hd (C.o.trans (s.mono C.o.size));clear s;go_wp2;go_ret;exact⟨rfl,aF.o⟩
 have c9:¬(100:Int)<((S q).size:Int):=by rw[Zat];omega
 have d4:=Hd (Src.elem (aM.o _ C.o));have dq:=Hd (b9.o (by omega) aX aZ (b0.o (by simp)) cc);have bz:=Hd (b5.o (b0.o (by simp)));go_wp2;clear av ap Z D Q ai J R Y K G M F O c9 aZ aX dB cf b9 b0 b8 ck db bk b5;go_loopw [11] (fun v wr=>∃k:Nat,k<=c/\v=.int .i64 k/\(∀x∈u.take k,x.length<=100)/\Below em.heap.size em wr) (fun v _=>c-(intOf v).toNat)
 case atStart=>exact⟨0,Yao _,rfl,(fun x cs=>by simp at cs),Yab _ _⟩
 case round=>
  obtain⟨k,eN,rfl,cd,ds⟩:=hrel;have bt:=Hd cd;have aV:=Hd ds;clear cd ds;by_cases c6:k<c
  ·obtain⟨x,cs⟩:∃x,u[k]?=some x:=⟨_,Yaa (by rw[←ae.o];exact c6)⟩
   obtain⟨cQ,et,fd,rfl,cp,_,de⟩:=d4.o k x cs;obtain rfl:=cp;have cR:wr.cell? ⟨cQ,et+k,none⟩=some (.string (S x)):=(Yae (S:=fun _=>False) aV.o).cell (a:=⟨cQ,et+k,none⟩) (by have p:=de 0 _ rfl;rw[YaH]at p;exact p) id;have fb:((S x).size:Int)=(x.length:Int):=by rw[Zat]
   have eW:(0:Int)<=(k:Int):=by omega
   have eU:(k:Int)<(c:Int):=by omega
   have eE:Hid (u.take (k+1)=u.take k++[x]):=Hd (by rw[YaK,cs];rfl);have ep:=Hd (C.o.trans (aV.o.mono C.o.size));clear de cs;by_cases aU:100<x.length
   ·have eM:100<(x.length:Int):=by omega
    clear aU;go_wp2;go_ret;exact⟨rfl,ep.o⟩
   ·have eM:¬(100<(x.length:Int)):=by omega
    have cI:Hid (x.length<=100):=Hd (by omega);clear aU;go_wp2;go_roundw
    case rel=>exact⟨k+1,by omega,by go_num,(fun e4 bQ=>by rw[eE.o,Yaq,Yax]at bQ;rcases bQ with bQ|bQ;exact bt.o e4 bQ;rw[bQ];exact cI.o),aV.o⟩
    case measure=>simp[intOf];omega
  ·obtain rfl:c=k:=by omega
   have aW:Hid (∀x∈u,x.length<=100):=Hd (by have cw:=bt.o;rw[ae.o,YaE]at cw;exact cw);obtain⟨fa,dm⟩:∃W2,W2=wr:=⟨_,rfl⟩
   have b6:=Hd (C.o.trans (aV.o.mono C.o.size));have cA:=Hd (dC.o.trans (aV.o.mono dC.o.size));have z:=Hd (L.o.below aV.o);have aK:=Hd (a4.o.below aV.o);have aP:=Hd (bd.o.below aV.o);clear bt aV C dC L a4 bd d4 c6 eN;rw[←dm]at b6 cA z aK aP⊢;clear dm;obtain⟨di,dy,bU⟩:=dq.o aW.o;have dv:=Hd di;have cD:=Hd dy;have aS:=Hd bU;clear di dy bU dq;obtain⟨av,ap,Z⟩:_/\_/\_:=⟨aP.o.cell 0 rfl,aP.o.cell 1 rfl,aP.o.cell 2 rfl⟩;obtain⟨D,Q,ai⟩:_/\_/\_:=⟨aK.o.cell 0 rfl,aK.o.cell 1 rfl,aK.o.cell 2 rfl⟩;obtain⟨J,R,Y,K,G,M,F⟩:_/\_/\_/\_/\_/\_/\_:=⟨z.o.cell 0 rfl,z.o.cell 1 rfl,z.o.cell 2 rfl,z.o.cell 3 rfl,z.o.cell 4 rfl,z.o.cell 5 rfl,z.o.cell 6 rfl⟩
   go_wp2_with fail;with_reducible refine(dv.o _ _ cA.o (bc.o _ b6.o)).mono ?_
   rintro e bY⟨e7,rfl,a9,cH⟩;obtain⟨f,dt⟩:=h;obtain⟨ce,ei⟩:=ar;simp only at a9 aS cD⊢;obtain⟨bR,bN,ad,a2,rfl⟩:=a9.shape;obtain⟨r,b4⟩:∃p,p=f.stk.length:=⟨_,rfl⟩
   obtain⟨aY,cy⟩:∃p,p=f.loc.length:=⟨_,rfl⟩
   obtain⟨dJ,O⟩:∃p,p=f.seen:=⟨_,rfl⟩
   rw[←b4,←cy,←O]at a9⊢;have aI:=Hd b4;have bx:=Hd cy;have bw:=Hd O;clear b4 cy O;have bu:=Zaa (Yab bY.heap.size bY) (.cells #[.bool dJ,.slice bR r bN,.slice ad aY a2] 30);have j:=cH.trans (bu.mono cH.size);have bs:=Hd (Box.new bY #[.bool dJ,.slice bR r bN,.slice ad aY a2] 30);have dU:=Hd (a9.below bu);have aQ:=Hd (b6.o.trans (j.mono b6.o.size));have bA:=Hd (cA.o.trans (j.mono cA.o.size));have bq:=Hd (z.o.below j);have br:=Hd (aK.o.below j);have aG:=Hd (aP.o.below j);clear a9 cH bu j z aK aP b6 cA dv av ap Z D Q ai J R Y K G M F;go_upto_region 10 with fail;obtain⟨bf,cx⟩:∃V,V=bY.alloc (.cells #[.bool dJ,.slice bR r bN,.slice ad aY a2] 30):=⟨_,rfl⟩
   obtain⟨bB,cj⟩:∃b,b=bY.heap.size:=⟨_,rfl⟩
   rw[←cx]at bs dU aQ bA bq br aG⊢;rw[←cj]at bs⊢;clear cx cj;obtain⟨_,_,e,a7,ac⟩:=bc.o _ aQ.o;simp only[Value.agg.injEq,Ycn,YaT,and_true]at e;obtain⟨_,rfl,rfl⟩:=e;have bh:=Hd a7;have aN:=Hd ac;have a3:=Hd (aM.o _ aQ.o);clear a7 ac;have b3:Hid (∀W,Below bf.heap.size bf W->W.cell? ⟨w.heap.size+1+1,1,none⟩=some (.slice ab E X)/\W.cell? ⟨w.heap.size+1+1,2,none⟩=some (.slice I y U)):=Hd (fun W cw=>⟨(aG.o.below cw).cell 1 rfl,(aG.o.below cw).cell 2 rfl⟩);have cb:=ZnX bf;have aC:Hid (u.length=c):=Hd ae.o.symm;have aa:Hid ((u++a.stk).length=c+E):=Hd (by rw[Yal,bm.o,ae.o]);go_cut [14] (fun eo a1=>∃B bJ bL bI bD,eo=.pointer (some ⟨B,0,none⟩)/\Box a1 B #[.bool true,.slice bJ (c+E) bL,.slice bI y bD] 30/\Below bf.heap.size bf a1/\Src 1 StrR Anyw a1 (.slice bJ (c+E) bL) (u++a.stk)/\Src 1 StrR Anyw a1 (.slice bI y bD) a.loc)
   case first=>
    have eu:=bz.o.1;have eL:=bz.o.2;have bo:Hid (c<=1048576):=Hd (by omega);have bp:Hid (c+E<=1048576):=Hd (by omega);have dH:Hid (y<=1048576):=Hd (by omega);clear eu eL;first
    |(go_region_held3 (fun W=>W.cell? ⟨w.heap.size+1+1,1,none⟩=some (.slice ab E X)/\W.cell? ⟨w.heap.size+1+1,2,none⟩=some (.slice I y U)) ((refine b3.o _ ?_;(with_reducible repeat (first|exact Yab _ _|assumption|refine Zab ?_|refine Zaa ?_ _|refine Zih ?_ (by assumption))))) ((first
      |(refine Zfy (l1:=[]) (sv:=.slice (some ⟨_,0,none⟩) 0 0) (.slice cz c bW) u u c (by rfl) _ _ (by rfl) (by rfl) (by rfl) (by(with_reducible repeat (first|assumption|apply ZfP|apply ZfQ;focus (first|(with_reducible rfl)|(simp;done))|apply ZfR;focus (first|(with_reducible rfl)|(simp;done))|apply Zis;focus (first|(with_reducible rfl)|(simp;done))))) a3.o (by rfl) aC.o bo.o ?_;rintro d0 cP dW H;(try simp only[ZfO]at H);(try simp only[Zey]at H);have d2:=H.bel;try (obtain⟨⟨eP,ej,ez⟩,eQ,eR,eO,eB⟩:=DX.cells H))
      |(refine Zfy (l1:=u) (sv:=.slice _ c _) (.slice ab E X) a.stk (u++a.stk) (c+E) (by rfl) _ _ (by rfl) (by rfl) (by rfl) (by(with_reducible repeat (first|assumption|apply ZfP|apply ZfQ;focus (first|(with_reducible rfl)|(simp;done))|apply ZfR;focus (first|(with_reducible rfl)|(simp;done))|apply Zis;focus (first|(with_reducible rfl)|(simp;done))))) bh.o (by rfl) aa.o bp.o ?_;rintro d5 cm d7 P;(try simp only[ZfO]at P);(try simp only[Zey]at P);have d9:=P.bel;try (obtain⟨⟨eD,eS,eG⟩,ew,eK,eJ,eA⟩:=DX.cells P))
      |(refine Zrp (l2:=[]) (sv:=.slice (some ⟨_,0,none⟩) 0 0) (.slice I y U) a.loc a.loc y (by rfl) _ _ (by rfl) (by rfl) (by rfl) (by(with_reducible repeat (first|assumption|apply ZfP|apply ZfR;focus (first|(with_reducible rfl)|(simp;done))|apply ZfQ;focus (first|(with_reducible rfl)|(simp;done))|apply Zis;focus (first|(with_reducible rfl)|(simp;done))))) aN.o (by rfl) bn.o dH.o ?_;rintro eT cL e0 bE;(try simp only[ZfO]at bE);(try simp only[Zey]at bE);have eY:=bE.bel;try (obtain⟨⟨e1,cW,cY⟩,cM,cJ,cX,e9⟩:=DX.cells bE)))))
    |fail
    all_goals
     go_wp2_with fail;go_meet
     first|exact Zs8 (by assumption)|exact Zr7 (by simp) (by assumption)
   case rest=>
    obtain⟨B,bJ,bL,bI,bD,rfl,bj,d,aD,O⟩:=hcut;have cV:=Hd bj;have d1:=Hd (show ShpR Anyw wc (a.on u) (.agg #[.bool true,.slice bJ (c+E) bL,.slice bI y bD])from⟨_,_,rfl,aD,O⟩);have dA:=Hd (aQ.o.trans (d.mono aQ.o.size));have ea:=Hd (bA.o.trans (d.mono bA.o.size));have af:=Hd (bq.o.below d);have a5:=Hd (br.o.below d);have du:=Hd (aG.o.below d);have da:=Hd (bs.o.below d);have c8:=Hd (dU.o.below d);clear bj d aD O bq br aG bs dU aQ bA b3 cb bh aN a3 aC aa;obtain⟨dE,cR,dK⟩:_/\_/\_:=⟨cV.o.cell 0 rfl,cV.o.cell 1 rfl,cV.o.cell 2 rfl⟩;obtain⟨D,Q,ai⟩:_/\_/\_:=⟨a5.o.cell 0 rfl,a5.o.cell 1 rfl,a5.o.cell 2 rfl⟩;obtain⟨J,R,Y,K,G,M,F⟩:_/\_/\_/\_/\_/\_/\_:=⟨af.o.cell 0 rfl,af.o.cell 1 rfl,af.o.cell 2 rfl,af.o.cell 3 rfl,af.o.cell 4 rfl,af.o.cell 5 rfl,af.o.cell 6 rfl⟩
    go_wp2_with fail;with_reducible refine(cD.o _ _ ea.o d1.o).mono ?_
    rintro e cn⟨e8,rfl,bC,cg⟩;obtain⟨cv,cq,cF,ca,rfl⟩:=bC.shape;obtain⟨dD,c3⟩:∃p,p=ce.stk.length:=⟨_,rfl⟩
    obtain⟨dz,c4⟩:∃p,p=ce.loc.length:=⟨_,rfl⟩
    obtain⟨dF,df⟩:∃p,p=ce.seen:=⟨_,rfl⟩
    rw[←c3,←c4,←df]at bC⊢;clear c3 c4 df;have bu:=Zaa (Yab cn.heap.size cn) (.cells #[.bool dF,.slice cv dD cq,.slice cF dz ca] 30);have j:=cg.trans (bu.mono cg.size);have bS:=Hd (Box.new cn #[.bool dF,.slice cv dD cq,.slice cF dz ca] 30);have cC:=Hd (bC.below bu);have az:=Hd (dA.o.trans (j.mono dA.o.size));have aE:=Hd (a5.o.below j);have aA:=Hd (du.o.below j);have i:=Hd (da.o.below j);have aB:=Hd (c8.o.below j);clear bC bu j cg af a5 du da c8 dA ea d1 cV cD dE cR dK D Q ai J R Y K G M F;go_upto_region 12 with fail;obtain⟨a8,cl⟩:∃V,V=cn.alloc (.cells #[.bool dF,.slice cv dD cq,.slice cF dz ca] 30):=⟨_,rfl⟩
    obtain⟨eV,b7⟩:∃b,b=cn.heap.size:=⟨_,rfl⟩
    rw[←cl]at bS cC az aE aA i aB⊢;rw[←b7]at bS⊢;clear cl b7;by_cases dh:dt=0
    case neg=>
     have dN:¬((dt:Int)=0):=by omega
     clear dh aS bS cC aE aA i aB;go_wp2;go_ret;exact⟨rfl,az.o⟩
    subst dh;obtain⟨cW,cY,cM,cJ,cX⟩:=aS.o rfl;clear aS;have ej:r<=24:=by rw[aI.o];exact cW
    have ey:IntKind.i64.wrap ((r:Int)+(c:Int))=(r:Int)+(c:Int):=by simp only[IntKind.wrap_i64];omega
    obtain⟨eI,eC,dY⟩:_/\_/\_:=⟨i.o.cell 0 rfl,i.o.cell 1 rfl,i.o.cell 2 rfl⟩;by_cases aU:24<r+c
    ·have el:(24:Int)<(r:Int)+(c:Int):=by omega
     obtain rfl:ei=72:=cM (by rw[←aI.o];exact aU);clear cW cY cM cJ cX bS cC aE aA i aB;go_wp2;go_ret;exact⟨rfl,az.o⟩
    have el:¬(24:Int)<(r:Int)+(c:Int):=by omega
    have cZ:=cJ (by rw[←aI.o];omega);simp only[Prod.mk.injEq]at cZ;obtain⟨rfl,rfl⟩:=cZ;have dG:=Hd cX;have co:Hid (aY=y):=Hd (by rw[bx.o];exact cY);clear cW cY cM cJ cX;obtain⟨_,_,e,a7,ac⟩:=aB.o;simp only[Value.agg.injEq,Ycn,YaT,and_true]at e;obtain⟨_,rfl,rfl⟩:=e;have bh:=Hd a7;have aN:=Hd ac;have a3:=Hd (aM.o _ az.o);clear a7 ac aB;go_upto_region 16 with fail;clear el ey;have b3:Hid (∀W,Below a8.heap.size a8 W->W.cell? ⟨bB,1,none⟩=some (.slice bR r bN)/\W.cell? ⟨bB,2,none⟩=some (.slice ad aY a2)):=Hd (fun W cw=>⟨(i.o.below cw).cell 1 rfl,(i.o.below cw).cell 2 rfl⟩);have cb:=ZnX a8;have aC:Hid (u.length=c):=Hd ae.o.symm;have aa:Hid ((u++f.stk).length=c+r):=Hd (by rw[Yal,←aI.o,←ae.o]);go_cut [17] (fun eg a1=>∃B bG bH,eg=.pointer (some ⟨B,0,none⟩)/\Box a1 B #[.bool true,.slice bG (c+r) bH,.slice ad aY a2] 30/\Below a8.heap.size a8 a1/\Src 1 StrR Anyw a1 (.slice bG (c+r) bH) (u++f.stk))
    case first=>
     have bo:Hid (c<=1048576):=Hd (by omega);have bp:Hid (c+r<=1048576):=Hd (by omega);first
     |(go_region_held3 (fun W=>W.cell? ⟨bB,1,none⟩=some (.slice bR r bN)/\W.cell? ⟨bB,2,none⟩=some (.slice ad aY a2)) ((refine b3.o _ ?_;(with_reducible repeat (first|exact Yab _ _|assumption|refine Zab ?_|refine Zaa ?_ _|refine Zih ?_ (by assumption))))) ((first
       |(refine Zfy (l1:=[]) (sv:=.slice (some ⟨_,0,none⟩) 0 0) (.slice cz c bW) u u c (by rfl) _ _ (by rfl) (by rfl) (by rfl) (by(with_reducible repeat (first|assumption|apply ZfP|apply ZfQ;focus (first|(with_reducible rfl)|(simp;done))|apply ZfR;focus (first|(with_reducible rfl)|(simp;done))|apply Zis;focus (first|(with_reducible rfl)|(simp;done))))) a3.o (by rfl) aC.o bo.o ?_;rintro d0 cP dW H;(try simp only[ZfO]at H);(try simp only[Zey]at H);have d2:=H.bel;try (obtain⟨⟨eP,ej,ez⟩,eQ,eR,eO,eB⟩:=DX.cells H))
       |(refine Zfy (l1:=u) (sv:=.slice _ c _) (.slice bR r bN) f.stk (u++f.stk) (c+r) (by rfl) _ _ (by rfl) (by rfl) (by rfl) (by(with_reducible repeat (first|assumption|apply ZfP|apply ZfQ;focus (first|(with_reducible rfl)|(simp;done))|apply ZfR;focus (first|(with_reducible rfl)|(simp;done))|apply Zis;focus (first|(with_reducible rfl)|(simp;done))))) bh.o (by rfl) aa.o bp.o ?_;rintro d5 cm d7 P;(try simp only[ZfO]at P);(try simp only[Zey]at P);have d9:=P.bel;try (obtain⟨⟨eD,eS,eG⟩,ew,eK,eJ,eA⟩:=DX.cells P)))))
     |fail
     all_goals
      go_wp2_with fail;go_meet
      first|exact Zr8 _ (by assumption)|exact Zr9 (by simp) _ (by assumption)
    case rest=>
     obtain⟨ff,bG,bH,rfl,bj,d,aD⟩:=hcut;have cU:=Hd bj;have ef:=Hd (show ShpR Anyw wc (f.on u) (.agg #[.bool true,.slice bG (c+r) bH,.slice ad aY a2])from⟨_,_,rfl,aD,StrR.st.below aN.o d⟩);have dP:=Hd (az.o.trans (d.mono az.o.size));have ee:=Hd (aE.o.below d);have d3:=Hd (aA.o.below d);have bs:=Hd (i.o.below d);have bK:=Hd (bS.o.below d);have c2:=Hd (cC.o.below d);have dn:=Hd (StrR.st.below aN.o d);have a6:Hid (Shp.Fit (f.on u)):=Hd ⟨by show(u++f.stk).length<=_;rw[aa.o];omega,by show f.loc.length<=_;rw[←bx.o,co.o];have:=dZ.o.2;omega⟩;have a0:=Zec (f.on u) (f.on u) _ _ wc c2.o ef.o a6.o a6.o;rw[Shp.eq_refl]at a0;unfold Said at a0;have dx:=Hd a0;clear a0 bj d aD ef aE aA i bS cC b3 cb bh aN a3 aC aa az eI eC dY;obtain⟨eH,cQ,ex⟩:_/\_/\_:=⟨bK.o.cell 0 rfl,bK.o.cell 1 rfl,bK.o.cell 2 rfl⟩;obtain⟨dE,cR,dK⟩:_/\_/\_:=⟨cU.o.cell 0 rfl,cU.o.cell 1 rfl,cU.o.cell 2 rfl⟩
     go_wp2_with fail;with_reducible refine dx.o.mono ?_
     rintro e dQ⟨rfl,aJ⟩;have cT:=Hd (dP.o.trans (aJ.mono dP.o.size));have D:=(ee.o.below aJ).cell 0 rfl;have Z:=(d3.o.below aJ).cell 2 rfl;have dY:=(bs.o.below aJ).cell 2 rfl;have cr:=Hd (StrR.st.below dn.o aJ);obtain⟨_,_,e,_,ac⟩:=bc.o _ cT.o;simp only[Value.agg.injEq,Ycn,YaT,and_true]at e;obtain⟨_,_,rfl⟩:=e;have bw:=Hd ac;clear aJ ac eH cQ ex dE cR dK ee d3 bs bK c2 cU dn dx dP;go_upto_region 19 with fail;have e6:=Zaf g;cases dN:(g==[115,116,111,114,101])
     case true=>
      clear cr bw dc aM bc bm bn bz aW aI bx co a6 dG;go_wp2;go_ret;exact⟨rfl,cT.o⟩
     case false=>
      have b1:f.loc=a.loc:=by
       rcases dG.o with eF|eF
       ·rw[eF]at dN;exact absurd dN (by decide)
       ·exact eF
      have dV:ShpR Anyw dQ ⟨false,[],f.loc⟩ (.agg #[.bool false,.slice none 0 0,.slice ad aY a2]):=⟨_,_,rfl,Src.nil,cr.o⟩;have ek:ShpR Anyw dQ ⟨false,[],f.loc⟩ (.agg #[.bool false,.slice none 0 0,.slice I y U]):=⟨_,_,rfl,Src.nil,by rw[b1];exact bw.o⟩;have cE:Shp.Fit ⟨false,[],f.loc⟩:=⟨Yao _,a6.o.2⟩;have a0:=Zec _ _ _ _ dQ dV ek cE cE;rw[Shp.eq_refl]at a0;unfold Said at a0;have dw:=Hd a0;clear a0 dV ek cE b1 cr bw dc aM bc bm bn bz aW aI bx co a6 dG
      go_wp2_with fail;with_reducible refine dw.o.mono ?_
      rintro e cu⟨rfl,s⟩;have aF:=Hd (cT.o.trans (s.mono cT.o.size));clear s dw;go_wp2;go_ret;exact⟨rfl,aF.o⟩
theorem Zro (u:Value)(m:Mth)(i:Ins)(v:Value)(a:Shp)(z:Value)(l:List (List UInt8))(w:World)(d:HT6 w)(f:MthR Anyw w m u)(F:m.held/\m.Fit/\∀K∈m.code,Zaw K.op)(A:i64 i.n/\Zaw i.op/\Zaw i.s)(b:ShpR Anyw w a v)(G:a.real)(c:Src 1 StrR Anyw w z l)(t:∀x∈l,Zaw x)(q:l.length<=9223372036854775807) :
  Calls prog 4 #[u,.agg #[.string (S i.op),.int .i64 i.n,.string (S i.s)],v,z] w (Said true w):=by
 obtain⟨J,I,H,rfl,⟨r,g,rfl⟩,⟨C,k,rfl⟩,⟨j,y,rfl⟩⟩:=Zaj f;obtain⟨B,p,lo,E,rfl⟩:=b.shape;obtain⟨h,D,rfl⟩:=c.shape;exact Zh2 m.name m.res i.op i.s i.n m.loc r C j _ g _ k _ y m.abs a l B lo h p E D w b G.2.2 c q t d A.2.2 F.2.1.res
