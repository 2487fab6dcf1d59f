/- laws -/
import Derived.Test.YtegljjbclladdaaGreatDoorK37
import Derived.Test.YtegljjbclladdaaGreatDoorK73
import Derived.Test.YtegljjbclladdaaGreatDoorK77
import Derived.Test.YtegljjbclladdaaGreatDoorK85
import Derived.Test.YtegljjbclladdaaGreatDoorK86
import Derived.Test.YtegljjbclladdaaGreatDoorK87
set_option maxRecDepth 100000
set_option maxHeartbeats 16000000
namespace Go.Proofs.YtegljjbclladdaaGreatDoor
open Go.ChangeShapes Go.WideShapes Go.ChangeAt Go.RowKit Go.Lib Go.WideMaps Go.WideElems Go.Deep Proofs.Tryz
def Shp.real (s:Shp):Prop:=(∀x∈s.stk,Zaw x)/\(∀x∈s.loc,Zaw x)/\s.Fit
theorem Zo0:prog.cellsOf 30=3:=by kernel_rfl
theorem ZhK {A:Type}{enc:TypeId×Value->A}{w:World}{held:Bool}{d:Nat}{cs:List Value}{x:DataW A×List MemPlace}(u:cs.length=3)
  (D:DataW.trod enc prog w 0 (fun _=>true) held d 30 cs=some x):∃z:Shp,z.real/\∃v:Value,ShpR Anyw w z v/\v.cells.toList=cs:=by
 obtain⟨b,n,_,_,_,c,a⟩:=DataW.trod_struct underlying30 D
 match cs,u with
 |[c0,c1,c2],_=>
  have l:DataW.trod enc prog w 0 (fun _=>true) held n 4 [c0]=b[0]?:=by
   have g:=a 0 _ rfl;change DataW.trod enc prog w 0 (fun _=>true) held n 4 (([c0,c1,c2].drop 0).take (prog.cellsOf 4))=b[0]? at g;rw[ZoZ]at g;exact g
  rw[Yaa (by rw[c];decide)]at l;have j:DataW.trod enc prog w 0 (fun _=>true) held n 22 [c1]=b[1]?:=by
   have g:=a 1 _ rfl;change DataW.trod enc prog w 0 (fun _=>true) held n 22 (([c0,c1,c2].drop 1).take (prog.cellsOf 22))=b[1]? at g;rw[Zkc]at g;exact g
  rw[Yaa (by rw[c];decide)]at j;have f:DataW.trod enc prog w 0 (fun _=>true) held n 22 [c2]=b[2]?:=by
   have g:=a 2 _ rfl;change DataW.trod enc prog w 0 (fun _=>true) held n 22 (([c0,c1,c2].drop 2).take (prog.cellsOf 22))=b[2]? at g;rw[Zkc]at g;exact g
  rw[Yaa (by rw[c];decide)]at f;obtain⟨m,i,_⟩:=DataW.trod_bool underlying4 l;obtain⟨C,l1,h,t,q,r⟩:=ZeR j;obtain⟨B,l2,k,y,s,p⟩:=ZeR f;simp only[YaT,and_true]at i;subst i;simp only[YaT,and_true]at h;subst h;simp only[YaT,and_true]at k;subst k;exact⟨⟨m,l1,l2⟩,⟨q,s,r,p⟩,_,⟨_,_,rfl,t,y⟩,rfl⟩
end Go.Proofs.YtegljjbclladdaaGreatDoor
namespace Go.Proofs.YtegljjbclladdaaGreatDoor
open Go.ChangeShapes Go.WideShapes Go.ChangeAt Go.RowKit Go.Lib Go.WideMaps Go.WideElems Go.Deep Proofs.Tryz
theorem ZtH {r:Type}{enc:TypeId×Value->r}{w:World}{held:Bool}{v:Value}{d:DataW r}{p:List MemPlace}{base:Nat}(a:Value.okWide prog w .any base 26 v)
  (y:DataW.Trod enc prog w 0 (fun _=>true) held 26 v d p):∃m:Mth,(m.held/\m.Fit/\∀x∈m.code,Zaw x.op)/\MthR Anyw w m v:=by
 obtain⟨cs,rfl,b⟩:=okWide_struct underlying26 a;obtain⟨n,f⟩:=y;rw[Ztj]at b;have j:(Value.agg cs).cells.toList=cs.toList:=rfl;rw[j]at f;obtain⟨c,l,v,a,h⟩:=Zrb (by simpa using b) f;refine⟨c,l,?_⟩;have g:=a;obtain⟨i,q,k,rfl,s,u,t⟩:=a;have:cs=(Value.agg #[.string (S c.name),i,.string (S c.res),.bool c.abs,.int .i64 c.loc,q,k]).cells:=Yce.1 h.symm;rw[this];exact g
theorem ZtF {l:Type}{enc:TypeId×Value->l}{w:World}{held:Bool}{v:Value}{d:DataW l}{p:List MemPlace}{base:Nat}(h:Value.okWide prog w .any base 28 v)
  (m:DataW.Trod enc prog w 0 (fun _=>true) held 28 v d p):∃i:Ins,(i64 i.n/\Zaw i.op/\Zaw i.s)/\v=.agg #[.string (S i.op),.int .i64 i.n,.string (S i.s)]:=by
 obtain⟨cs,rfl,a⟩:=okWide_struct underlying28 h;obtain⟨k,b⟩:=m;rw[ZrP]at a;have g:(Value.agg cs).cells.toList=cs.toList:=rfl;rw[g]at b;obtain⟨c,j,v,rfl,f⟩:=Zk7 (by simpa using a) b;refine⟨c,j,?_⟩;have:cs=(Value.agg #[.string (S c.op),.int .i64 c.n,.string (S c.s)]).cells:=Yce.1 f.symm;rw[this];rfl
end Go.Proofs.YtegljjbclladdaaGreatDoor
namespace Go.Proofs.YtegljjbclladdaaGreatDoor
open Go.RowKit Proofs.Tryz
structure Shp.Few (s:Shp):Prop where
 n1:s.stk.length<=40
 n2:s.loc.length<=40
 k1:∀x∈s.stk,x.length<=100
 k2:∀x∈s.loc,x.length<=100
def ZfA (s:Shp)(w:World)(e:Ending)(w':World):Prop:=∃b,e=.returned (.bool b)/\(b=true->s.Few)/\Below w.heap.size w w'
theorem Zhr {A:Nat->Prop}(s:Shp)(v:Value)(w:World)(ai:ShpR A w s v)(O:s.Fit):Calls prog 7 #[v] w (ZfA s w):=by
 obtain⟨ao,aq,rfl,Q,T⟩:=ai;obtain⟨K,H,rfl⟩:=Q.shape;obtain⟨lo,L,rfl⟩:=T.shape;have ab:=Hd (Src.elem Q);have ac:=Hd (Src.elem T);obtain⟨n,J⟩:∃n,n=s.stk.length:=⟨_,rfl⟩
 obtain⟨m,F⟩:∃m,m=s.loc.length:=⟨_,rfl⟩
 have am:n<=9223372036854775807:=by rw[J];exact O.1
 have al:m<=9223372036854775807:=by rw[F];exact O.2
 rw[←J,←F];have N:=Hd J;have V:=Hd F;have Y:=Hd (Box.new w #[.bool s.seen,.slice K n H,.slice lo m L] 30);have d:Hid (Below w.heap.size w (w.alloc (.cells #[.bool s.seen,.slice K n H,.slice lo m L] 30))):=Hd (Zaa (Yab _ _) _);clear Q T O J F;by_cases P:40<n
 ·have af:40<(n:Int):=by omega
  clear P;go_enter func7,ntmps7;go_wp2;go_ret;exact(⟨false,rfl,(fun y=>by cases y),d.o⟩:ZfA s w _ _)
 have af:¬(40<(n:Int)):=by omega
 by_cases X:40<m
 ·have ad:40<(m:Int):=by omega
  clear P X;go_enter func7,ntmps7;go_wp2;go_ret;exact(⟨false,rfl,(fun y=>by cases y),d.o⟩:ZfA s w _ _)
 have ad:¬(40<(m:Int)):=by omega
 have aa:Hid (n<=40/\m<=40):=Hd ⟨by omega,by omega⟩;clear P X;go_enter func7,ntmps7;go_wp2
 go_loopw [3] (fun v wr=>∃k:Nat,k<=n/\v=.int .i64 k/\(∀x∈s.stk.take k,x.length<=100)/\Below (w.alloc (.cells #[.bool s.seen,.slice K n H,.slice lo m L] 30)).heap.size (w.alloc (.cells #[.bool s.seen,.slice K n H,.slice lo m L] 30)) wr) (fun v _=>n-(intOf v).toNat)
 case atStart=>exact⟨0,Yao _,rfl,(fun x i=>by simp at i),Yab _ _⟩
 case round=>
  obtain⟨k,ae,rfl,h,l⟩:=hrel;have z:=Hd h;have g:=Hd l;have c:=(Y.o.below l).cell 1 rfl;clear h l;by_cases E:k<n
  ·obtain⟨x,i⟩:∃x,s.stk[k]?=some x:=⟨_,Yaa (by rw[←N.o];exact E)⟩
   obtain⟨C,D,ak,rfl,B,_,u⟩:=ab.o k x i;obtain rfl:=B;have ah:wr.cell? ⟨C,D+k,none⟩=some (.string (S x)):=(Yae (S:=fun _=>False) (d.o.trans (g.o.mono d.o.size))).cell (a:=⟨C,D+k,none⟩) (by have p:=u 0 _ rfl;rw[YaH]at p;exact p) id;have ag:((S x).size:Int)=(x.length:Int):=by rw[Zat]
   have W:(0:Int)<=(k:Int):=by omega
   have Z:(k:Int)<(n:Int):=by omega
   have R:Hid (s.stk.take (k+1)=s.stk.take k++[x]):=Hd (by rw[YaK,i];rfl);have f:=Hd (d.o.trans (g.o.mono d.o.size));clear u i;by_cases q:100<x.length
   ·have U:100<(x.length:Int):=by omega
    clear q;go_wp2;go_ret;exact(⟨false,rfl,(fun y=>by cases y),f.o⟩:ZfA s w _ _)
   ·have U:¬(100<(x.length:Int)):=by omega
    have t:Hid (x.length<=100):=Hd (by omega);clear q;go_wp2;go_roundw
    case rel=>exact⟨k+1,by omega,by go_num,(fun aj b=>by rw[R.o,Yaq,Yax]at b;rcases b with b|b;exact z.o aj b;rw[b];exact t.o),g.o⟩
    case measure=>simp[intOf];omega
  ·obtain rfl:n=k:=by omega
   have r:Hid (∀x∈s.stk,x.length<=100):=Hd (by have y:=z.o;rw[N.o,YaE]at y;exact y);have f:=Hd (d.o.trans (g.o.mono d.o.size));have I:=r;obtain⟨W2,M⟩:∃W2,W2=wr:=⟨_,rfl⟩
   have j:=f;have G:=Hd (Y.o.below g.o);clear z c r f g;rw[←M]at j G⊢;clear M;have ar:=G.o.cell 1 rfl;have ap:=G.o.cell 2 rfl;go_wp2;go_loopw [4] (fun v wr=>∃k:Nat,k<=m/\v=.int .i64 k/\(∀x∈s.loc.take k,x.length<=100)/\Below W2.heap.size W2 wr) (fun v _=>m-(intOf v).toNat)
   case atStart=>exact⟨0,Yao _,rfl,(fun x i=>by simp at i),Yab _ _⟩
   case round=>
    obtain⟨k,ae,rfl,h,l⟩:=hrel;have z:=Hd h;have g:=Hd l;have c:=(G.o.below l).cell 2 rfl;clear h l;by_cases E:k<m
    ·obtain⟨x,i⟩:∃x,s.loc[k]?=some x:=⟨_,Yaa (by rw[←V.o];exact E)⟩
     obtain⟨C,D,ak,rfl,B,_,u⟩:=ac.o k x i;obtain rfl:=B;have ah:wr.cell? ⟨C,D+k,none⟩=some (.string (S x)):=(Yae (S:=fun _=>False) (j.o.trans (g.o.mono j.o.size))).cell (a:=⟨C,D+k,none⟩) (by have p:=u 0 _ rfl;rw[YaH]at p;exact p) id;have ag:((S x).size:Int)=(x.length:Int):=by rw[Zat]
     have W:(0:Int)<=(k:Int):=by omega
     have Z:(k:Int)<(m:Int):=by omega
     have R:Hid (s.loc.take (k+1)=s.loc.take k++[x]):=Hd (by rw[YaK,i];rfl);have f:=Hd (j.o.trans (g.o.mono j.o.size));clear u i;by_cases q:100<x.length
     ·have U:100<(x.length:Int):=by omega
      clear q;go_wp2;go_ret;exact(⟨false,rfl,(fun y=>by cases y),f.o⟩:ZfA s w _ _)
     ·have U:¬(100<(x.length:Int)):=by omega
      have t:Hid (x.length<=100):=Hd (by omega);clear q;go_wp2;go_roundw
      case rel=>exact⟨k+1,by omega,by go_num,(fun aj b=>by rw[R.o,Yaq,Yax]at b;rcases b with b|b;exact z.o aj b;rw[b];exact t.o),g.o⟩
      case measure=>simp[intOf];omega
    ·obtain rfl:m=k:=by omega
     have r:Hid (∀x∈s.loc,x.length<=100):=Hd (by have y:=z.o;rw[V.o,YaE]at y;exact y);have f:=Hd (j.o.trans (g.o.mono j.o.size));go_wp2;go_ret;exact(⟨true,rfl,(fun _=>⟨by rw[←N.o];exact aa.o.1,by rw[←V.o];exact aa.o.2,I.o,r.o⟩),f.o⟩:ZfA s w _ _)
theorem Shp.Few.small {s:Shp}(b:s.Few):s.Small:=⟨Yaj b.n1 (by decide),Yaj b.n2 (by decide),fun x a=>Yaj (b.k1 x a) (by decide),fun x a=>Yaj (b.k2 x a) (by decide)⟩
theorem ShpR.any {A:Nat->Prop}{w:World}{s:Shp}{v:Value}(f:ShpR A w s v):ShpR Anyw w s v:=by
 obtain⟨a,b,e,c,d⟩:=f;exact⟨a,b,e,StrR.st.any c,StrR.st.any d⟩
end Go.Proofs.YtegljjbclladdaaGreatDoor
namespace Go.Proofs.YtegljjbclladdaaGreatDoor
open Go.RowKit Proofs.Tryz
def Zji:List UInt8:=[115,116,111,114,101]
structure ZrH (es:List Ent):Prop where
 fk:∀sx,(Zel es sx).length<=1000
 pl:∀sx,(Zeh es sx).length<=1000
 pk:∀sx,∀x∈Zeh es sx,x.length<=1000000
 rl:∀sx,(Zep es sx).length<=1000000
 ml:∀i,(Zal es i).length<=9223372036854775807
 sm:∀i,∀m∈Zal es i,m.Small
theorem Zit {a:List UInt8}{g:Nat}(f:Zfm a=some g):(a,g)∈effL:=by
 unfold Zfm at f;obtain⟨h,b,rfl⟩:=YaO.1 f;have c:=YbL b;have d:=Ych b;rw[List.mem_reverse]at c;obtain rfl:h.1=a:=eq_of_beq d;exact c
def ZrG (a:World)(p:Nat->Option Value)(c:Nat)(o:OpM):Prop:=∀(b lo:Nat) (W:World) (stk loc:List (List UInt8)),StW b lo p a W stk loc 0->stk.length<=1000->loc.length<=1000->(∀x∈stk,x.length<=1000000)->(∀x∈loc,x.length<=1000000)->Calls prog c #[.pointer (some ⟨b,0,none⟩)] W (OpG b lo p a o stk loc W)
theorem Ztl {A:Nat->Prop}{B:Nat->Nat}{H E:Nat}{es:List Ent}{C:World}(f:Tab A C H E B es)(h:Shape es)(q:ZrH es){p:Nat->Option Value}(g:p 0=some (.pointer (some ⟨H,0,none⟩))){s u j:List UInt8}{n:Int}(G:p 3=some (.string (S s)))(y:p 9=some (.int .i64 n))(m:p 10=some (.string (S j)))(w:s.length<=1000)(k:j.length<=1000){I:Nat}(D:Zfm u=some I) :
  ∃(o:OpM) (J:Nat),o.Even J/\(o.setl=none\/u=Zji)/\ZrG C p I o:=by
 have v:=Zit D;clear D;have d:∀ {l:List (List UInt8)},(∀x∈l,x.length<=1000000)->∀x∈l,x.length<=9223372036854775807:=fun c x F=>by have:=c x F;omega
 simp only[effL,Yai,Yat,or_false,Prod.mk.injEq]at v;rcases v with⟨rfl,rfl⟩|⟨rfl,rfl⟩|⟨rfl,rfl⟩|⟨rfl,rfl⟩|⟨rfl,rfl⟩|⟨rfl,rfl⟩|⟨rfl,rfl⟩|⟨rfl,rfl⟩|⟨rfl,rfl⟩|⟨rfl,rfl⟩|⟨rfl,rfl⟩|⟨rfl,rfl⟩|⟨rfl,rfl⟩|⟨rfl,rfl⟩|⟨rfl,rfl⟩|⟨rfl,rfl⟩|⟨rfl,rfl⟩|⟨rfl,rfl⟩|⟨rfl,rfl⟩|⟨rfl,rfl⟩|⟨rfl,rfl⟩|⟨rfl,rfl⟩|⟨rfl,rfl⟩|⟨rfl,rfl⟩|⟨rfl,rfl⟩|⟨rfl,rfl⟩|⟨rfl,rfl⟩|⟨rfl,rfl⟩|⟨rfl,rfl⟩|⟨rfl,rfl⟩|⟨rfl,rfl⟩|⟨rfl,rfl⟩|⟨rfl,rfl⟩|⟨rfl,rfl⟩|⟨rfl,rfl⟩|⟨rfl,rfl⟩|⟨rfl,rfl⟩|⟨rfl,rfl⟩|⟨rfl,rfl⟩|⟨rfl,rfl⟩|⟨rfl,rfl⟩|⟨rfl,rfl⟩
 ·exact⟨⟨fun _=>0,0,fun _ _=>true,fun _ _=>[intL],none⟩,1,fun _ _ _=>rfl,.inl rfl,fun i lo W stk loc c a _ _ _=>ZhN c a⟩
 ·exact⟨⟨fun _=>0,0,fun _ _=>true,fun _ _=>[Zbq],none⟩,1,fun _ _ _=>rfl,.inl rfl,fun i lo W stk loc c a _ _ _=>Zfl c a⟩
 ·exact⟨⟨fun _=>0,0,fun _ _=>true,fun _ _=>[Zbq],none⟩,1,fun _ _ _=>rfl,.inl rfl,fun i lo W stk loc c a _ _ _=>Zfl c a⟩
 ·exact⟨⟨fun _=>0,0,fun _ _=>true,fun _ _=>[Zfc],none⟩,1,fun _ _ _=>rfl,.inl rfl,fun i lo W stk loc c a _ _ _=>Zkg c a⟩
 ·exact⟨⟨fun _=>0,0,fun _ _=>true,fun _ _=>[Zcv],none⟩,1,fun _ _ _=>rfl,.inl rfl,fun i lo W stk loc c a _ _ _=>Zkf c a⟩
 ·exact⟨ZiU n,1,fun _ _ _=>rfl,.inl rfl,fun i lo W stk loc c a r _ z=>Zsn n y c a r z⟩
 ·exact⟨Zgt n,0,fun _ _ _=>rfl,.inr rfl,fun i lo W stk loc c a r _ _=>Zrq n y c a r⟩
 ·exact⟨⟨fun _=>0,1,fun _ _=>true,fun _ _=>[],none⟩,0,fun _ _ _=>rfl,.inl rfl,fun i lo W stk loc c a _ _ _=>Ztn c a⟩
 ·exact⟨⟨fun _=>0,1,fun _ _=>true,fun t _=>[t.getD 0 [],t.getD 0 []],none⟩,2,fun _ _ _=>rfl,.inl rfl,fun i lo W stk loc c a _ b _=>Zs7 c a b⟩
 ·exact⟨⟨fun _=>0,2,fun _ _=>true,fun t _=>[t.getD 1 [],t.getD 0 []],none⟩,2,fun _ _ _=>rfl,.inl rfl,fun i lo W stk loc c a _ b _=>ZsM c a b⟩
 ·exact⟨ZbE es [intL,intL] [intL],1,fun _ _ _=>rfl,.inl rfl,fun i lo W stk loc c a _ b _=>Za4 f h g c a (d b)⟩
 ·exact⟨ZbE es [intL,intL] [intL],1,fun _ _ _=>rfl,.inl rfl,fun i lo W stk loc c a _ b _=>Za4 f h g c a (d b)⟩
 ·exact⟨ZbE es [intL,intL] [intL],1,fun _ _ _=>rfl,.inl rfl,fun i lo W stk loc c a _ b _=>Za4 f h g c a (d b)⟩
 ·exact⟨ZbE es [intL,intL] [intL],1,fun _ _ _=>rfl,.inl rfl,fun i lo W stk loc c a _ b _=>Za4 f h g c a (d b)⟩
 ·exact⟨ZbE es [intL,intL] [intL],1,fun _ _ _=>rfl,.inl rfl,fun i lo W stk loc c a _ b _=>Za4 f h g c a (d b)⟩
 ·exact⟨ZbE es [intL,intL] [intL],1,fun _ _ _=>rfl,.inl rfl,fun i lo W stk loc c a _ b _=>Za4 f h g c a (d b)⟩
 ·exact⟨ZbE es [intL,intL] [intL],1,fun _ _ _=>rfl,.inl rfl,fun i lo W stk loc c a _ b _=>Za4 f h g c a (d b)⟩
 ·exact⟨ZbE es [intL,intL] [intL],1,fun _ _ _=>rfl,.inl rfl,fun i lo W stk loc c a _ b _=>Za4 f h g c a (d b)⟩
 ·exact⟨ZbE es [intL,intL] [intL],1,fun _ _ _=>rfl,.inl rfl,fun i lo W stk loc c a _ b _=>Za4 f h g c a (d b)⟩
 ·exact⟨ZbE es [intL,intL] [intL],1,fun _ _ _=>rfl,.inl rfl,fun i lo W stk loc c a _ b _=>Za4 f h g c a (d b)⟩
 ·exact⟨ZbE es [intL] [intL],1,fun _ _ _=>rfl,.inl rfl,fun i lo W stk loc c a _ b _=>ZoY f h g c a (d b)⟩
 ·exact⟨ZbE es [intL,intL] [Zbq],1,fun _ _ _=>rfl,.inl rfl,fun i lo W stk loc c a _ b _=>ZgL f h g c a (d b)⟩
 ·exact⟨ZbE es [intL,intL] [Zbq],1,fun _ _ _=>rfl,.inl rfl,fun i lo W stk loc c a _ b _=>ZgL f h g c a (d b)⟩
 ·exact⟨ZbE es [Zbq] [Zbq],1,fun _ _ _=>rfl,.inl rfl,fun i lo W stk loc c a _ b _=>Zox f h g c a (d b)⟩
 ·exact⟨ZbE es [Zbq,Zbq] [Zbq],1,fun _ _ _=>rfl,.inl rfl,fun i lo W stk loc c a _ b _=>Zr2 f h g c a (d b)⟩
 ·exact⟨ZbE es [Zfc,Zfc] [Zfc],1,fun _ _ _=>rfl,.inl rfl,fun i lo W stk loc c a _ b _=>ZqI f h g c a (d b)⟩
 ·exact⟨ZqL,0,fun _ _ _=>rfl,.inl rfl,fun i lo W stk loc c _ _ _ _=>Zsj c⟩
 ·exact⟨ZbE es [Zbq] [],0,fun _ _ _=>rfl,.inl rfl,fun i lo W stk loc c a _ b _=>Znv f h g c a (d b)⟩
 ·exact⟨ZbE es [intL] [],0,fun _ _ _=>rfl,.inl rfl,fun i lo W stk loc c a _ b _=>ZsD f h g c a (d b)⟩
 ·exact⟨Zho es j,1,fun _ _ _=>rfl,.inl rfl,fun i lo W stk loc c a _ _ _=>ZnO f g m k c a⟩
 ·exact⟨getO es j,1,fun _ _ _=>rfl,.inl rfl,fun i lo W stk loc c a _ b _=>Zsf f h g m k (q.fk j) c a (d b)⟩
 ·exact⟨ZsH es j,0,fun _ _ _=>rfl,.inl rfl,fun i lo W stk loc c a _ b _=>ZsG f h g m k (q.fk j) c a (d b)⟩
 ·exact⟨Zij es j,(if Zep es j=[]then[]else[Zep es j]:List (List UInt8)).length,fun _ _ _=>rfl,.inl rfl,fun i lo W stk loc c a _ b _=>Zqg f h q.ml q.sm g m k (q.pl j) (q.pk j) (q.rl j) c a (d b)⟩
 ·exact⟨arrO es j,1,fun _ _ _=>rfl,.inl rfl,fun i lo W stk loc c a _ b _=>ZgA f h g m k c a (d b)⟩
 ·exact⟨atO es,1,fun _ _ _=>rfl,.inl rfl,fun i lo W stk loc c a _ b _=>ZsY f h g c a b⟩
 ·exact⟨setO es,0,fun _ _ _=>rfl,.inl rfl,fun i lo W stk loc c a _ b _=>ZsJ f h g c a b⟩
 ·exact⟨Ztp es,1,fun _ _ _=>rfl,.inl rfl,fun i lo W stk loc c a _ b _=>Zrm f h g c a b⟩
 ·exact⟨isO es j,1,fun _ _ _=>rfl,.inl rfl,fun i lo W stk loc c a _ b _=>Ztc f h g m k c a (d b)⟩
 ·exact⟨ZsZ es j,1,fun _ _ _=>rfl,.inl rfl,fun i lo W stk loc c a _ b _=>Zqh f h g m k c a (d b)⟩
 ·exact⟨ZrN es,1,fun _ _ _=>rfl,.inl rfl,fun i lo W stk loc c a _ b _=>Zn3 f h g c a (d b)⟩
 ·exact⟨endO es s,0,fun t l _=>by unfold endO;split<;>rfl,.inl (by unfold endO;split<;>rfl),fun i lo W stk loc c a _ b _=>Zsc f h g G w c a (d b)⟩
 ·exact⟨ZbE es [Zbe] [],0,fun _ _ _=>rfl,.inl rfl,fun i lo W stk loc c a _ b _=>Zrw f h g c a (d b)⟩
theorem ZtD {B:Nat}{a:List UInt8}{z:Nat}(I:Zfm a=some z)(J:a.length<=1000)(p r g:List UInt8)(l q d:Option Addr)(j f m h c k:Nat)(t:Bool)(i n:Int)(s:Shp)(sv:Value)(b w:World)(C:Below b.heap.size b w)(G:ShpR Anyw w s sv)(u:s.Small)(H:s.stk.length<=1000)(y:s.loc.length<=1000)(E:∀x∈s.stk,x.length<=1000000)(A:∀x∈s.loc,x.length<=1000000)
  (o:OpM)(D:ZrG b (preS B p r a g (.slice l j f) (.slice q m h) (.slice d c k) t i n) z o)(F:∀args w,(callFunc z args).run prog w=.ok (.enter z args) w) :
  Calls prog 9 #[.pointer (some ⟨B,0,none⟩),.agg #[.string (S p),.slice l j f,.string (S r),.bool t,.int .i64 i,.slice q m h,.slice d c k],.agg #[.string (S a),.int .i64 n,.string (S g)],sv] w (DoG (o.res s) w):=
 ZnW z B p r a g l q d j f m h c k t i n s sv b w C G u I (by omega) F (o.stk s.stk s.loc) (o.loc s.stk s.loc) (o.er s.stk s.loc) (fun K lo W _ _ v=>D K lo W s.stk s.loc v H y E A)
theorem ZiE {es:List Ent}{f:Fld}:∀(L:List Nat),f∈ZaZ es L->∃(i:Nat) (e:Ent),es[i]?=some e/\f∈e.cls.flds
 |[],a=>by cases a
 |i::L,a=>by
  unfold ZaZ at a;rcases Yaq.1 a with a|a
  ·exact ZiE L a
  ·unfold Za6 at a;cases b:es[i]? with
   |none=>rw[b]at a;cases a
   |some e=>rw[b]at a;exact⟨i,e,b,a⟩
theorem Zg7:∀c∈allR cls7,(∀f∈c.flds,f.kind.length<=100)/\∀m∈c.mths,(m.params.length<=100/\m.res.length<=100)/\∀x∈m.params,x.length<=100:=by decide +kernel
theorem ZkO {i:Nat}{e:Ent}(a:(newT cls7)[i]?=some e):e.cls∈allR cls7:=by
 rw[←Zcs];exact Ya2.2 ⟨e,Yaf a,rfl⟩
theorem ZiZ {i:Nat}{m:Mth}(a:m∈Zal (newT cls7) i):∃e,(newT cls7)[i]?=some e/\m∈e.cls.mths:=by
 unfold Zal at a;cases b:(newT cls7)[i]? with
 |none=>rw[b]at a;cases a
 |some e=>rw[b]at a;exact⟨e,rfl,a⟩
theorem ZfF {c:List UInt8}{b:Nat×Mth}(f:Zez (newT cls7) c=some b):(b.2.params.length<=100/\b.2.res.length<=100)/\∀x∈b.2.params,x.length<=100:=by
 obtain⟨_,a⟩:=ZgP f;obtain⟨e,d,a⟩:=ZiZ a;exact(Zg7 e.cls (ZkO d)).2 b.2 a
theorem ZsE (ok:NewOk cls7):ZrH (newT cls7) where
 fk:=fun a=>by
  unfold Zel Zek;cases Zbc (newT cls7) (clsP a) (nmP a)with
  |none=>simp
  |some k=>
   simp only;cases j:(Zei (newT cls7) (clsP a))[k]? with
   |none=>simp
   |some f=>
    have b:=Yaf j;unfold Zei at b;obtain⟨i,e,d,h⟩:=ZiE _ b;have:=(Zg7 e.cls (ZkO d)).1 f h;show f.kind.length<=1000;omega
 pl:=fun a=>by
  unfold Zeh;cases g:Zez (newT cls7) a with
  |none=>simp
  |some l=>have:=(ZfF g).1.1;simp only;omega
 pk:=fun a x c=>by
  unfold Zeh at c;cases g:Zez (newT cls7) a with
  |none=>rw[g]at c;cases c
  |some l=>rw[g]at c;have:=(ZfF g).2 x c;omega
 rl:=fun a=>by
  unfold Zep;cases g:Zez (newT cls7) a with
  |none=>simp
  |some l=>have:=(ZfF g).1.2;simp only;omega
 ml:=fun i=>by
  unfold Zal;cases d:(newT cls7)[i]? with
  |none=>simp
  |some e=>have:=(ok.lined.clsSmall i e d).n3;simp only;omega
 sm:=fun i m b=>by
  obtain⟨e,d,b⟩:=ZiZ b;exact(ok.lined.clsSmall i e d).mths m b
theorem ZnY:∀k:Fin 42,(Zfm (ZaB k.val)).isSome=true:=by decide +kernel
theorem Zq8 {c:List UInt8}{b:Nat}(d:Zfm c=some b):∀args w,(callFunc b args).run prog w=.ok (.enter b args) w:=by
 have a:=Zit d;simp only[effL,Yai,Yat,or_false,Prod.mk.injEq]at a;rcases a with⟨rfl,rfl⟩|⟨rfl,rfl⟩|⟨rfl,rfl⟩|⟨rfl,rfl⟩|⟨rfl,rfl⟩|⟨rfl,rfl⟩|⟨rfl,rfl⟩|⟨rfl,rfl⟩|⟨rfl,rfl⟩|⟨rfl,rfl⟩|⟨rfl,rfl⟩|⟨rfl,rfl⟩|⟨rfl,rfl⟩|⟨rfl,rfl⟩|⟨rfl,rfl⟩|⟨rfl,rfl⟩|⟨rfl,rfl⟩|⟨rfl,rfl⟩|⟨rfl,rfl⟩|⟨rfl,rfl⟩|⟨rfl,rfl⟩|⟨rfl,rfl⟩|⟨rfl,rfl⟩|⟨rfl,rfl⟩|⟨rfl,rfl⟩|⟨rfl,rfl⟩|⟨rfl,rfl⟩|⟨rfl,rfl⟩|⟨rfl,rfl⟩|⟨rfl,rfl⟩|⟨rfl,rfl⟩|⟨rfl,rfl⟩|⟨rfl,rfl⟩|⟨rfl,rfl⟩|⟨rfl,rfl⟩|⟨rfl,rfl⟩|⟨rfl,rfl⟩|⟨rfl,rfl⟩|⟨rfl,rfl⟩|⟨rfl,rfl⟩|⟨rfl,rfl⟩|⟨rfl,rfl⟩
 ·exact Zac func42 (by kernel_rfl) rfl
 ·exact Zac func43 (by kernel_rfl) rfl
 ·exact Zac func43 (by kernel_rfl) rfl
 ·exact Zac func44 (by kernel_rfl) rfl
 ·exact Zac func45 (by kernel_rfl) rfl
 ·exact Zac func46 (by kernel_rfl) rfl
 ·exact Zac func47 (by kernel_rfl) rfl
 ·exact Zac func48 (by kernel_rfl) rfl
 ·exact Zac func49 (by kernel_rfl) rfl
 ·exact Zac func50 (by kernel_rfl) rfl
 ·exact Zac func51 (by kernel_rfl) rfl
 ·exact Zac func51 (by kernel_rfl) rfl
 ·exact Zac func51 (by kernel_rfl) rfl
 ·exact Zac func51 (by kernel_rfl) rfl
 ·exact Zac func51 (by kernel_rfl) rfl
 ·exact Zac func51 (by kernel_rfl) rfl
 ·exact Zac func51 (by kernel_rfl) rfl
 ·exact Zac func51 (by kernel_rfl) rfl
 ·exact Zac func51 (by kernel_rfl) rfl
 ·exact Zac func51 (by kernel_rfl) rfl
 ·exact Zac func52 (by kernel_rfl) rfl
 ·exact Zac func53 (by kernel_rfl) rfl
 ·exact Zac func53 (by kernel_rfl) rfl
 ·exact Zac func54 (by kernel_rfl) rfl
 ·exact Zac func55 (by kernel_rfl) rfl
 ·exact Zac func56 (by kernel_rfl) rfl
 ·exact Zac func57 (by kernel_rfl) rfl
 ·exact Zac func58 (by kernel_rfl) rfl
 ·exact Zac func59 (by kernel_rfl) rfl
 ·exact Zac func60 (by kernel_rfl) rfl
 ·exact Zac func61 (by kernel_rfl) rfl
 ·exact Zac func62 (by kernel_rfl) rfl
 ·exact Zac func63 (by kernel_rfl) rfl
 ·exact Zac func64 (by kernel_rfl) rfl
 ·exact Zac func65 (by kernel_rfl) rfl
 ·exact Zac func66 (by kernel_rfl) rfl
 ·exact Zac func67 (by kernel_rfl) rfl
 ·exact Zac func68 (by kernel_rfl) rfl
 ·exact Zac func69 (by kernel_rfl) rfl
 ·exact Zac func70 (by kernel_rfl) rfl
 ·exact Zac func71 (by kernel_rfl) rfl
 ·exact Zac func72 (by kernel_rfl) rfl
theorem ZkA {a:List UInt8}(f:¬refT a<0):∃g,Zfm a=some g:=by
 unfold refT at f;by_cases b:idx a<42
 ·have c:=ZnY ⟨idx a,b⟩;have d:ZaB (idx a)=a:=eq_of_beq (Zf1 a b);simp only[d]at c;exact YaL.1 c
 ·rw[Yar b]at f;exact absurd (by decide) f
theorem ZqX:∀k:Fin 42,(ZaB k.val).length<=100:=by decide +kernel
theorem ZpQ {a:List UInt8}(f:¬refT a<0):a.length<=100:=by
 unfold refT at f;by_cases b:idx a<42
 ·have c:=ZqX ⟨idx a,b⟩;have d:ZaB (idx a)=a:=eq_of_beq (Zf1 a b);simp only[d]at c;exact c
 ·rw[Yar b]at f;exact absurd (by decide) f
theorem ZkK {G K:Nat}{B:Nat->Nat}{A:Nat->Prop}{d:World}(ok:NewOk cls7)(H:Tab A d G K B (newT cls7))(a t c b:List UInt8)(n:Int)(f:¬refT a<0)(E:c.length<=1000)(D:b.length<=1000)(m u h:Option Addr)(l i r j g q:Nat)(v:Bool)(k:Int):∃(o:OpM) (N:Nat),o.Even N/\(o.setl=none\/a=Zji)/\
  ∀(s:Shp) (sv:Value) (w:World),Below d.heap.size d w->ShpR Anyw w s sv->s.Small->s.stk.length<=1000->s.loc.length<=1000->(∀x∈s.stk,x.length<=1000000)->(∀x∈s.loc,x.length<=1000000)->
   Calls prog 9 #[.pointer (some ⟨G,0,none⟩),.agg #[.string (S t),.slice m l i,.string (S c),.bool v,.int .i64 k,.slice u r j,.slice h g q],.agg #[.string (S a),.int .i64 n,.string (S b)],sv] w (DoG (o.res s) w):=by
 obtain⟨R,y⟩:=ZkA f;obtain⟨o,N,J,M,O⟩:=Ztl (p:=preS G t c a b (.slice m l i) (.slice u r j) (.slice h g q) v k n) H ok.shape (ZsE ok) rfl rfl rfl rfl E D y;exact⟨o,N,J,M,fun s sv w I P z Q C L F=>ZtD y (Yaj (ZpQ f) (by decide)) t c b m u h l i r j g q v k n s sv d w I P z Q C L F o O (Zq8 y)⟩
end Go.Proofs.YtegljjbclladdaaGreatDoor
namespace Go.Proofs.YtegljjbclladdaaGreatDoor
open Go.ChangeShapes Go.WideShapes Go.ChangeAt Go.RowKit Go.Lib Go.WideMaps Go.WideElems Go.Deep Proofs.Tryz
theorem Zsx:prog.cellsOf 31=6:=by kernel_rfl
theorem Ztv {L:Type}{enc:TypeId×Value->L}{w:World}{held:Bool}{v:Value}{d:DataW L}{p:List MemPlace}{base:Nat}(A:Value.okWide prog w .any base 31 v)
  (N:DataW.Trod enc prog w 0 (fun _=>true) held 31 v d p):∃(a b:Shp) (h f c i:Value),a.real/\b.real/\v=.agg #[.bool a.seen,h,f,.bool b.seen,c,i]/\ShpR Anyw w a (.agg #[.bool a.seen,h,f])/\ShpR Anyw w b (.agg #[.bool b.seen,c,i]):=by
 obtain⟨cs,rfl,k⟩:∃cs,v=.agg cs/\cs.size=prog.cellsOf 31:=by
  simp only[Value.okWide,underlying31]at A;obtain⟨cs,D,E,_⟩:=A;exact⟨cs,D,E⟩
 obtain⟨J,u⟩:=N;rw[Zsx]at k;have F:(Value.agg cs).cells.toList=cs.toList:=rfl;rw[F]at u;have I:cs.toList.length=6:=by simpa using k
 match q:cs.toList,I with
 |[c0,c1,c2,c3,c4,c5],_=>
  rw[q]at u;obtain⟨xs,n,_,_,_,s,j⟩:=DataW.trod_array underlying31 u;have B:DataW.trod enc prog w 0 (fun _=>true) held n 30 [c0,c1,c2]=xs[0]?:=by
   have g:=j 0 (by decide);rw[Zo0]at g;exact g
  rw[Yaa (by rw[s];decide)]at B;have z:DataW.trod enc prog w 0 (fun _=>true) held n 30 [c3,c4,c5]=xs[1]?:=by
   have g:=j 1 (by decide);rw[Zo0]at g;exact g
  rw[Yaa (by rw[s];decide)]at z;obtain⟨a,G,M,t,K⟩:=ZhK rfl B;obtain⟨b,H,O,r,C⟩:=ZhK rfl z;have x:=t;have y:=r;obtain⟨h,f,rfl,_,_⟩:=t;obtain⟨c,i,rfl,_,_⟩:=r;have m:[Value.bool a.seen,h,f]=[c0,c1,c2]:=K;have l:[Value.bool b.seen,c,i]=[c3,c4,c5]:=C;simp only[YaT,and_true]at m l;obtain⟨rfl,rfl,rfl⟩:=m;obtain⟨rfl,rfl,rfl⟩:=l;refine⟨a,b,h,f,c,i,G,H,?_,x,y⟩;have:cs=#[.bool a.seen,h,f,.bool b.seen,c,i]:=Yce.1 q;rw[this]
end Go.Proofs.YtegljjbclladdaaGreatDoor
namespace Go.Proofs.YtegljjbclladdaaGreatDoor
open Go.RowKit Proofs.Tryz
theorem Zgs (aq h f g:List UInt8)(n am:Int)(ad ai ac:Option Addr)(ao ag ap ah aj ak:Nat)(af:Bool)(a b:Shp)(aw ax m j:Option Addr)(av ay l p:Nat)(w:World)
  (b3:ShpR Anyw w a (.agg #[.bool a.seen,.slice aw a.stk.length av,.slice ax a.loc.length ay]))(bY:ShpR Anyw w b (.agg #[.bool b.seen,.slice m b.stk.length l,.slice j b.loc.length p]))(aZ:a.Fit)(aW:b.Fit)(a4:HT6 w)(cH:g.length<=9223372036854775807)(cI:h.length<=9223372036854775807) :
  Calls prog 3 #[.agg #[.string (S aq),.slice ad ao ag,.string (S h),.bool af,.int .i64 am,.slice ai ap ah,.slice ac aj ak],.agg #[.string (S f),.int .i64 n,.string (S g)],.agg #[.bool a.seen,.slice aw a.stk.length av,.slice ax a.loc.length ay,.bool b.seen,.slice m b.stk.length l,.slice j b.loc.length p]] w (Said true w):=by
 have bi:Hid (∀W,Below w.heap.size w W->Calls prog 5 #[] W (Zen W)):=Hd (fun W R=>Zeu W (a4.ft.keep R) (a4.ct.keep R));have aM:Hid (∀W,Below w.heap.size w W->Calls prog 6 #[] W (Said true W)):=Hd (fun W R=>ZgH W (a4.ft.keep R) (a4.ct.keep R));have bd:Hid (∀W,Below w.heap.size w W->Calls prog 7 #[.agg #[.bool a.seen,.slice aw a.stk.length av,.slice ax a.loc.length ay]] W (ZfA a W)):=Hd (fun W R=>Zhr a _ W (ShpR.below b3 R) aZ);have bm:Hid (∀W,Below w.heap.size w W->Calls prog 7 #[.agg #[.bool b.seen,.slice m b.stk.length l,.slice j b.loc.length p]] W (ZfA b W)):=Hd (fun W R=>Zhr b _ W (ShpR.below bY R) aW);have bU:Hid (∀W,Calls prog 8 #[.string (S f)] W fun e w'=>e=.returned (.int .i64 (refT f))/\Below W.heap.size W w'):=Hd (fun W=>ZaM f W);have bb:Hid (∀(bw bu:Nat) (B:Nat->Nat) (A:Nat->Prop) (a1:World),NewOk cls7->Tab A a1 bw bu B (newT cls7)->¬refT f<0->h.length<=100->g.length<=200->a.Few->b.Few->∃c d:Shp×Nat,(∀W,Below a1.heap.size a1 W->Below w.heap.size w W->Calls prog 9 #[.pointer (some ⟨bw,0,none⟩),.agg #[.string (S aq),.slice ad ao ag,.string (S h),.bool af,.int .i64 am,.slice ai ap ah,.slice ac aj ak],.agg #[.string (S f),.int .i64 n,.string (S g)],.agg #[.bool a.seen,.slice aw a.stk.length av,.slice ax a.loc.length ay]] W (DoG c W))/\
   (∀W,Below a1.heap.size a1 W->Below w.heap.size w W->Calls prog 9 #[.pointer (some ⟨bw,0,none⟩),.agg #[.string (S aq),.slice ad ao ag,.string (S h),.bool af,.int .i64 am,.slice ai ap ah,.slice ac aj ak],.agg #[.string (S f),.int .i64 n,.string (S g)],.agg #[.bool b.seen,.slice m b.stk.length l,.slice j b.loc.length p]] W (DoG d W))/\
   (c.2=0->d.2=0->((c.1.stk.length:Int)-a.stk.length=(d.1.stk.length:Int)-b.stk.length/\c.1.loc.length=a.loc.length/\c.1.seen=true/\d.1.seen=true/\c.1.stk.length<=24/\d.1.stk.length<=24))):=Hd (fun bw bu B A a1 ok bt cj cF cG aT aR=>by
  obtain⟨o,c4,bs,_,cf⟩:=ZkK ok bt f aq h g n cj (by omega) (by omega) ad ai ac ao ag ap ah aj ak af am;have cv:=aT.n1;have cz:=aT.n2;have cy:=aR.n1;have cB:=aR.n2;refine⟨o.res a,o.res b,fun W R b5=>cf a _ W R (ShpR.below b3 b5) aT.small (by omega) (by omega) (fun x aU=>by have:=aT.k1 x aU;omega) (fun x aU=>by have:=aT.k2 x aU;omega),fun W R b5=>cf b _ W R (ShpR.below bY b5) aR.small (by omega) (by omega) (fun x aU=>by have:=aR.k1 x aU;omega) (fun x aU=>by have:=aR.k2 x aU;omega),fun q r=>?_⟩;obtain⟨l1,l2,cx⟩:=OpM.len bs q;obtain⟨c0,cS,cC⟩:=OpM.len bs r;obtain⟨_,aA,aG⟩:=ZkL q;obtain⟨_,Q,au⟩:=ZkL r;have cl:(o.res a).1.stk.length<=24:=by unfold OpM.res;rw[aG];exact aA
  have cm:(o.res b).1.stk.length<=24:=by unfold OpM.res;rw[au];exact Q
  exact⟨by omega,l2,cx,cC,cl,cm⟩)
 have cE:Hid (a.stk.length<=9223372036854775807/\b.stk.length<=9223372036854775807/\a.loc.length<=9223372036854775807/\b.loc.length<=9223372036854775807):=Hd ⟨aZ.1,aW.1,aZ.2,aW.2⟩;have bo:Hid (a.Few->a.stk.length<=40/\a.loc.length<=40):=Hd (fun ce=>⟨ce.n1,ce.n2⟩);have bp:Hid (b.Few->b.stk.length<=40/\b.loc.length<=40):=Hd (fun ce=>⟨ce.n1,ce.n2⟩);clear b3 bY aZ aW a4;generalize a.seen=aQ at *;generalize b.seen=aS at *;generalize a.stk.length=Q at *;generalize b.stk.length=au at *;generalize a.loc.length=aA at *;generalize b.loc.length=aG at *;unfold Said at aM;unfold Zen at bi;unfold ZfA at bd bm;unfold DoG at bb;unfold Said;have bk:Box (((w.alloc (.cells #[.string (S aq),.slice ad ao ag,.string (S h),.bool af,.int .i64 am,.slice ai ap ah,.slice ac aj ak] 26)).alloc (.cells #[.string (S f),.int .i64 n,.string (S g)] 28)).alloc (.cells #[.bool aQ,.slice aw Q av,.slice ax aA ay,.bool aS,.slice m au l,.slice j aG p] 31)) w.heap.size #[.string (S aq),.slice ad ao ag,.string (S h),.bool af,.int .i64 am,.slice ai ap ah,.slice ac aj ak] 26:=by unfold Box;repeat (first|(exact Zam _ _ _ (by simp))|(with_reducible apply Zaz))
 have bh:Box (((w.alloc (.cells #[.string (S aq),.slice ad ao ag,.string (S h),.bool af,.int .i64 am,.slice ai ap ah,.slice ac aj ak] 26)).alloc (.cells #[.string (S f),.int .i64 n,.string (S g)] 28)).alloc (.cells #[.bool aQ,.slice aw Q av,.slice ax aA ay,.bool aS,.slice m au l,.slice j aG p] 31)) (w.heap.size+1) #[.string (S f),.int .i64 n,.string (S g)] 28:=by unfold Box;repeat (first|(exact Zam _ _ _ (by simp))|(with_reducible apply Zaz))
 have a9:Box (((w.alloc (.cells #[.string (S aq),.slice ad ao ag,.string (S h),.bool af,.int .i64 am,.slice ai ap ah,.slice ac aj ak] 26)).alloc (.cells #[.string (S f),.int .i64 n,.string (S g)] 28)).alloc (.cells #[.bool aQ,.slice aw Q av,.slice ax aA ay,.bool aS,.slice m au l,.slice j aG p] 31)) (w.heap.size+1+1) #[.bool aQ,.slice aw Q av,.slice ax aA ay,.bool aS,.slice m au l,.slice j aG p] 31:=by unfold Box;repeat (first|(exact Zam _ _ _ (by simp))|(with_reducible apply Zaz))
 have a2:Below w.heap.size w (((w.alloc (.cells #[.string (S aq),.slice ad ao ag,.string (S h),.bool af,.int .i64 am,.slice ai ap ah,.slice ac aj ak] 26)).alloc (.cells #[.string (S f),.int .i64 n,.string (S g)] 28)).alloc (.cells #[.bool aQ,.slice aw Q av,.slice ax aA ay,.bool aS,.slice m au l,.slice j aG p] 31)):=Zaa (Zaa (Zaa (Yab _ _) _) _) _;obtain⟨cZ,a7⟩:∃V,V=(((w.alloc (.cells #[.string (S aq),.slice ad ao ag,.string (S h),.bool af,.int .i64 am,.slice ai ap ah,.slice ac aj ak] 26)).alloc (.cells #[.string (S f),.int .i64 n,.string (S g)] 28)).alloc (.cells #[.bool aQ,.slice aw Q av,.slice ax aA ay,.bool aS,.slice m au l,.slice j aG p] 31)):=⟨_,rfl⟩
 rw[←a7]at bk bh a9 a2;have a6:=Hd a2;have bL:=Hd bk;have bH:=Hd bh;have bx:=Hd a9;clear bk bh a9 a2;go_enter func3,ntmps3
 go_upto_region 1 with fail;rw[←a7];clear a7;go_wp2_with fail;with_reducible refine(bi.o _ a6.o).mono ?_
 rintro e ba⟨ok,bw,bu,B,A,c1,rfl,bt,_,aK⟩;obtain⟨c,d,bf⟩:∃c d:Shp×Nat,Hid (¬refT f<0->h.length<=100->g.length<=200->a.Few->b.Few->(∀W,Below ba.heap.size ba W->Below w.heap.size w W->Calls prog 9 #[.pointer (some ⟨bw,0,none⟩),.agg #[.string (S aq),.slice ad ao ag,.string (S h),.bool af,.int .i64 am,.slice ai ap ah,.slice ac aj ak],.agg #[.string (S f),.int .i64 n,.string (S g)],.agg #[.bool aQ,.slice aw Q av,.slice ax aA ay]] W (fun e w'=>∃v,e=.returned (.tuple #[v,.int .i64 (c.2:Nat)])/\ShpR Anyw w' c.1 v/\Below W.heap.size W w'))/\
   (∀W,Below ba.heap.size ba W->Below w.heap.size w W->Calls prog 9 #[.pointer (some ⟨bw,0,none⟩),.agg #[.string (S aq),.slice ad ao ag,.string (S h),.bool af,.int .i64 am,.slice ai ap ah,.slice ac aj ak],.agg #[.string (S f),.int .i64 n,.string (S g)],.agg #[.bool aS,.slice m au l,.slice j aG p]] W (fun e w'=>∃v,e=.returned (.tuple #[v,.int .i64 (d.2:Nat)])/\ShpR Anyw w' d.1 v/\Below W.heap.size W w'))/\
   (c.2=0->d.2=0->((c.1.stk.length:Int)-Q=(d.1.stk.length:Int)-au/\c.1.loc.length=aA/\c.1.seen=true/\d.1.seen=true/\c.1.stk.length<=24/\d.1.stk.length<=24))):=by
  by_cases cn:¬refT f<0/\h.length<=100/\g.length<=200/\a.Few/\b.Few
  ·obtain⟨cs,b6,b7,b8,b1⟩:=cn;obtain⟨c,d,cA⟩:=bb.o bw bu B A ba ok bt (by omega) b6 b7 b8 b1;exact⟨c,d,Hd (fun _ _ _ _ _=>cA)⟩
  ·exact⟨(Shp.zero,0),(Shp.zero,0),Hd (fun cs b6 b7 b8 b1=>absurd ⟨cs,b6,b7,b8,b1⟩ cn)⟩
 have b9:=Hd (a6.o.trans (aK.mono a6.o.size));have bS:=Hd (bL.o.below aK);have bG:=Hd (bH.o.below aK);have bA:=Hd (bx.o.below aK);clear bt aK bL bH bx bb ok;go_wp2_with fail;with_reducible refine(aM.o _ b9.o).mono ?_
 rintro e cV⟨rfl,aE⟩;have b4:=Hd (b9.o.trans (aE.mono b9.o.size));have cb:=Hd aE;have G:=Hd (bS.o.below aE);have aN:=Hd (bG.o.below aE);have Z:=Hd (bA.o.below aE);clear aE bS bG bA;obtain⟨z,u,s,y,D,C⟩:_/\_/\_/\_/\_/\_:=⟨Z.o.cell 0 rfl,Z.o.cell 1 rfl,Z.o.cell 2 rfl,Z.o.cell 3 rfl,Z.o.cell 4 rfl,Z.o.cell 5 rfl⟩;obtain⟨M,E,al⟩:_/\_/\_:=⟨aN.o.cell 0 rfl,aN.o.cell 1 rfl,aN.o.cell 2 rfl⟩;obtain⟨H,q,r,J,K,F,I⟩:_/\_/\_/\_/\_/\_/\_:=⟨G.o.cell 0 rfl,G.o.cell 1 rfl,G.o.cell 2 rfl,G.o.cell 3 rfl,G.o.cell 4 rfl,G.o.cell 5 rfl,G.o.cell 6 rfl⟩
 go_wp2_with fail;with_reducible refine(bd.o _ b4.o).mono ?_
 rintro e cU⟨aT,rfl,aV,aD⟩;have bc:=Hd aV;clear aV;have a0:=Hd (b4.o.trans (aD.mono b4.o.size));have cg:=Hd (cb.o.trans (aD.mono cb.o.size));have N:=Hd (G.o.below aD);have aO:=Hd (aN.o.below aD);have ab:=Hd (Z.o.below aD);clear aD G aN Z z u s y D C M E al H q r J K F I;obtain⟨z,u,s,y,D,C⟩:_/\_/\_/\_/\_/\_:=⟨ab.o.cell 0 rfl,ab.o.cell 1 rfl,ab.o.cell 2 rfl,ab.o.cell 3 rfl,ab.o.cell 4 rfl,ab.o.cell 5 rfl⟩;obtain⟨M,E,al⟩:_/\_/\_:=⟨aO.o.cell 0 rfl,aO.o.cell 1 rfl,aO.o.cell 2 rfl⟩;obtain⟨H,q,r,J,K,F,I⟩:_/\_/\_/\_/\_/\_/\_:=⟨N.o.cell 0 rfl,N.o.cell 1 rfl,N.o.cell 2 rfl,N.o.cell 3 rfl,N.o.cell 4 rfl,N.o.cell 5 rfl,N.o.cell 6 rfl⟩;cases aT
 ·clear z u s y D C M E al H q r J K F I;go_wp2_with fail;with_reducible refine(aM.o _ a0.o).mono ?_
  rintro e bq⟨rfl,L⟩;have aH:=Hd (a0.o.trans (L.mono a0.o.size));clear L;go_wp2;go_ret;exact⟨rfl,aH.o⟩
 go_wp2_with fail;with_reducible refine(bm.o _ a0.o).mono ?_
 rintro e cX⟨aR,rfl,aX,aC⟩;have a5:=Hd aX;clear aX;have bj:=Hd (a0.o.trans (aC.mono a0.o.size));have ck:=Hd (cg.o.trans (aC.mono cg.o.size));have P:=Hd (N.o.below aC);have aP:=Hd (aO.o.below aC);have X:=Hd (ab.o.below aC);clear aC N aO ab z u s y D C M E al H q r J K F I;obtain⟨z,u,s,y,D,C⟩:_/\_/\_/\_/\_/\_:=⟨X.o.cell 0 rfl,X.o.cell 1 rfl,X.o.cell 2 rfl,X.o.cell 3 rfl,X.o.cell 4 rfl,X.o.cell 5 rfl⟩;obtain⟨M,E,al⟩:_/\_/\_:=⟨aP.o.cell 0 rfl,aP.o.cell 1 rfl,aP.o.cell 2 rfl⟩;obtain⟨H,q,r,J,K,F,I⟩:_/\_/\_/\_/\_/\_/\_:=⟨P.o.cell 0 rfl,P.o.cell 1 rfl,P.o.cell 2 rfl,P.o.cell 3 rfl,P.o.cell 4 rfl,P.o.cell 5 rfl,P.o.cell 6 rfl⟩;cases aR
 ·clear z u s y D C M E al H q r J K F I;go_wp2_with fail;with_reducible refine(aM.o _ bj.o).mono ?_
  rintro e bq⟨rfl,L⟩;have aH:=Hd (bj.o.trans (L.mono bj.o.size));clear L;go_wp2;go_ret;exact⟨rfl,aH.o⟩
 go_wp2_with fail;with_reducible refine(bU.o _).mono ?_
 rintro e cN⟨rfl,aB⟩;have ae:=Hd (bj.o.trans (aB.mono bj.o.size));have br:=Hd (ck.o.trans (aB.mono ck.o.size));have O:=Hd (P.o.below aB);have aL:=Hd (aP.o.below aB);have aa:=Hd (X.o.below aB);clear aB P aP X z u s y D C M E al H q r J K F I;obtain⟨z,u,s,y,D,C⟩:_/\_/\_/\_/\_/\_:=⟨aa.o.cell 0 rfl,aa.o.cell 1 rfl,aa.o.cell 2 rfl,aa.o.cell 3 rfl,aa.o.cell 4 rfl,aa.o.cell 5 rfl⟩;obtain⟨M,E,al⟩:_/\_/\_:=⟨aL.o.cell 0 rfl,aL.o.cell 1 rfl,aL.o.cell 2 rfl⟩;obtain⟨H,q,r,J,K,F,I⟩:_/\_/\_/\_/\_/\_/\_:=⟨O.o.cell 0 rfl,O.o.cell 1 rfl,O.o.cell 2 rfl,O.o.cell 3 rfl,O.o.cell 4 rfl,O.o.cell 5 rfl,O.o.cell 6 rfl⟩;obtain⟨cw,bB⟩:∃t,t=refT f:=⟨_,rfl⟩
 rw[←bB]at bf⊢;clear bB;by_cases b2:cw<0
 ·clear z u s y D C M E al H q r J K F I;go_wp2_with fail;with_reducible refine(aM.o _ ae.o).mono ?_
  rintro e bq⟨rfl,L⟩;have aH:=Hd (ae.o.trans (L.mono ae.o.size));clear L;go_wp2;go_ret;exact⟨rfl,aH.o⟩
 by_cases aF:g.length<=200
 case neg=>
  have bP:(200:Int)<((S g).size:Int):=by rw[Zat];omega
  clear z u s y D C M E H q r J K F I aF;go_wp2_with fail;with_reducible refine(aM.o _ ae.o).mono ?_
  rintro e bq⟨rfl,L⟩;have aH:=Hd (ae.o.trans (L.mono ae.o.size));clear L;go_wp2;go_ret;exact⟨rfl,aH.o⟩
 have bP:¬(200:Int)<((S g).size:Int):=by rw[Zat];omega
 by_cases aI:h.length<=100
 case neg=>
  have bJ:(100:Int)<((S h).size:Int):=by rw[Zat];omega
  clear z u s y D C M E H q J K F I aI;go_wp2_with fail;with_reducible refine(aM.o _ ae.o).mono ?_
  rintro e bq⟨rfl,L⟩;have aH:=Hd (ae.o.trans (L.mono ae.o.size));clear L;go_wp2;go_ret;exact⟨rfl,aH.o⟩
 have bJ:¬(100:Int)<((S h).size:Int):=by rw[Zat];omega
 obtain⟨bF,bV,a3⟩:=bf.o (by omega) aI aF (bc.o (by simp)) (a5.o (by simp));have bK:=Hd bF;have bN:=Hd bV;have ar:=Hd a3;have bC:=Hd (bo.o (bc.o (by simp)));have bD:=Hd (bp.o (a5.o (by simp)));clear bF bV a3 bf bc a5 bd bm bi bU aM bo bp;go_wp2_with fail;with_reducible refine(bK.o _ br.o ae.o).mono ?_
 rintro e bZ⟨cK,rfl,bO,az⟩;obtain⟨cp,cd,bQ,cq,rfl⟩:=bO.shape;have bl:=Zaa (Yab bZ.heap.size bZ) (.cells #[.bool c.1.seen,.slice cp c.1.stk.length cd,.slice bQ c.1.loc.length cq] 30);have i:=az.trans (bl.mono az.size);have cc:=Hd (Box.new bZ #[.bool c.1.seen,.slice cp c.1.stk.length cd,.slice bQ c.1.loc.length cq] 30);have bv:=Hd (ae.o.trans (i.mono ae.o.size));have ch:=Hd (br.o.trans (i.mono br.o.size));have Y:=Hd (O.o.below i);have aY:=Hd (aL.o.below i);have U:=Hd (aa.o.below i);clear bO az bl i O aL aa z u s y D C M E al H q r J K F I bP bJ bK aF aI b2;obtain⟨z,u,s,y,D,C⟩:_/\_/\_/\_/\_/\_:=⟨U.o.cell 0 rfl,U.o.cell 1 rfl,U.o.cell 2 rfl,U.o.cell 3 rfl,U.o.cell 4 rfl,U.o.cell 5 rfl⟩;obtain⟨M,E,al⟩:_/\_/\_:=⟨aY.o.cell 0 rfl,aY.o.cell 1 rfl,aY.o.cell 2 rfl⟩;obtain⟨H,q,r,J,K,F,I⟩:_/\_/\_/\_/\_/\_/\_:=⟨Y.o.cell 0 rfl,Y.o.cell 1 rfl,Y.o.cell 2 rfl,Y.o.cell 3 rfl,Y.o.cell 4 rfl,Y.o.cell 5 rfl,Y.o.cell 6 rfl⟩
 go_wp2_with fail;with_reducible refine(bN.o _ ch.o bv.o).mono ?_
 rintro e ca⟨cM,rfl,bM,az⟩;obtain⟨bz,bR,bT,bI,rfl⟩:=bM.shape;have bl:=Zaa (Yab ca.heap.size ca) (.cells #[.bool d.1.seen,.slice bz d.1.stk.length bR,.slice bT d.1.loc.length bI] 30);have i:=az.trans (bl.mono az.size);have aJ:=Hd (Box.new ca #[.bool d.1.seen,.slice bz d.1.stk.length bR,.slice bT d.1.loc.length bI] 30);have T:=Hd (cc.o.below i);have bn:=Hd (bv.o.trans (i.mono bv.o.size));have k:=Hd (U.o.below i);clear bM az bl i Y aY U cc bv ch br z u s y D C M E al H q r J K F I bN;obtain⟨cr,bg⟩:=c;obtain⟨bX,bW⟩:=d;simp only at ar T aJ k bn⊢;by_cases a8:bg=0
 case neg=>
  have bs:¬((bg:Int)=0):=by omega
  clear a8 ar T aJ k;go_wp2;go_ret;exact⟨rfl,bn.o⟩
 by_cases bE:bW=0
 case neg=>
  have bs:(bg:Int)=0:=by omega
  have c3:¬((bW:Int)=0):=by omega
  clear a8 bE ar T aJ k;go_wp2;go_ret;exact⟨rfl,bn.o⟩
 subst a8;subst bE;obtain⟨cW,cu,co,ci,c2,cO⟩:=ar.o rfl rfl;simp only[cu,co,ci]at T aJ k bn⊢;clear cu co ci;obtain⟨cv,cz⟩:=bC.o;obtain⟨cy,cB⟩:=bD.o;generalize cr.stk.length=b0 at *;generalize bX.stk.length=cD at *;generalize bX.loc.length=cT at *;obtain⟨z,u,s,y,D,C⟩:_/\_/\_/\_/\_/\_:=⟨k.o.cell 0 rfl,k.o.cell 1 rfl,k.o.cell 2 rfl,k.o.cell 3 rfl,k.o.cell 4 rfl,k.o.cell 5 rfl⟩;obtain⟨cP,cJ,cY⟩:_/\_/\_:=⟨T.o.cell 0 rfl,T.o.cell 1 rfl,T.o.cell 2 rfl⟩;obtain⟨cL,cR,cQ⟩:_/\_/\_:=⟨aJ.o.cell 0 rfl,aJ.o.cell 1 rfl,aJ.o.cell 2 rfl⟩;have cl:IntKind.i64.wrap ((b0:Int)-Q)=(b0:Int)-Q:=by simp only[IntKind.wrap_i64];omega
 have cm:IntKind.i64.wrap ((cD:Int)-au)=(b0:Int)-Q:=by simp only[IntKind.wrap_i64];omega
 clear ar T aJ k bC bD;go_wp2;go_ret;exact⟨by simp,bn.o⟩
theorem ZpL (u:Value)(m:Mth)(i:Ins)(L:Value)(a b:Shp)(d q k h:Value)(w:World)(t:HT6 w)(v:MthR Anyw w m u)(I:m.held/\m.Fit/\∀P∈m.code,Zaw P.op)(D:i64 i.n/\Zaw i.op/\Zaw i.s)(E:L=.agg #[.bool a.seen,d,q,.bool b.seen,k,h])(J:a.real)(K:b.real)(l:ShpR Anyw w a (.agg #[.bool a.seen,d,q]))(f:ShpR Anyw w b (.agg #[.bool b.seen,k,h])) :
  Calls prog 3 #[u,.agg #[.string (S i.op),.int .i64 i.n,.string (S i.s)],L] w (Said true w):=by
 obtain⟨O,N,M,rfl,⟨B,x,rfl⟩,⟨G,z,rfl⟩,⟨y,C,rfl⟩⟩:=Zaj v;subst E;obtain⟨F,A,lo,H,e⟩:=l.shape;obtain⟨c,j,r,p,g⟩:=f.shape;simp only[Value.agg.injEq,Ycn,YaT,true_and,and_true]at e g;obtain⟨rfl,rfl⟩:=e;obtain⟨rfl,rfl⟩:=g;exact Zgs m.name m.res i.op i.s i.n m.loc B G y _ x _ z _ C m.abs a b F lo c r A H j p w l f J.2.2 K.2.2 t D.2.2 I.2.1.res
