/- laws -/
import Derived.Test.YtegljjbclladdaaGreatDoorK27
set_option maxRecDepth 100000
set_option maxHeartbeats 16000000
namespace Go.Proofs.YtegljjbclladdaaGreatDoor
open Go.RowKit Tryz
theorem Zgc (l:List UInt8):memB l=ZaA l:=by
 unfold memB ZaA Zah;cases b:ZbS l with
 |false=>simp
 |true=>
  have c:=(ZbK b).1;have a:=ZhH b 0 (by omega);unfold okAt Zcg ZdO at a;rw[YaG,YaG,YaG,Ybk,Ybj,decide_eq_false_iff_not,YaP];simp only[YaZ,Yaw,YaP,ne_eq,not_true_eq_false,false_and,or_false]at a;omega
/-! What the document's tests come to. -/
def Zsm (c:Cls)(k:Nat):Bool:=(c.like.take k).all (fun x=>Zah x&&!(x==c.name))&&ZbG c.like k
def fldR (c:Cls)(k:Nat):Bool:=(c.flds.take k).all (fun f=>ZaA f.name&&(Zag f.kind&&!c.itf))&&ZbG (c.flds.map Fld.name) k
def mthB (c:Cls)(m:Mth):Bool:=m.ok&&((!m.abs || c.abs)&&(!c.itf || m.abs))
def mthR (c:Cls)(k:Nat):Bool:=(c.mths.take k).all (mthB c)&&ZbG (c.mths.map Mth.name) k
def Znt (c:Cls):Bool:=Zah c.name&&(Zah c.sup&&!(c.name==c.sup))
def Zpx (c:Cls):Bool:=(((Znt c&&Zsm c c.like.length)&&fldR c c.flds.length)&&mthR c c.mths.length)&&((!c.itf || (c.abs&&decide (c.sup=objL)))&&!(c.abs&&c.fin))
theorem Zr0 (l:List (List UInt8))(s:List UInt8):l.any (fun c=>c==s)=true↔s∈l:=by
 rw[YaU];constructor
 ·rintro⟨c,b,a⟩;rw[beq_iff_eq]at a;exact a▸b
 ·intro a;exact⟨s,a,by simp⟩
theorem Zpy (c:Cls):Zpx c=c.fine:=by
 have t:ZbG c.like c.like.length=ZbM c.like:=rfl;have j:ZbG (c.flds.map Fld.name) c.flds.length=ZbM (c.flds.map Fld.name):=by unfold ZbM;rw[YaB]
 have k:ZbG (c.mths.map Mth.name) c.mths.length=ZbM (c.mths.map Mth.name):=by unfold ZbM;rw[YaB]
 unfold Zpx Zsm fldR mthR Znt Cls.fine Cls.names Cls.sort;rw[t,j,k,Yaz (Yad _),Yaz (Yad _),Yaz (Yad _)];generalize ZbM c.like=z;generalize ZbM (c.flds.map Fld.name)=u;generalize ZbM (c.mths.map Mth.name)=w;clear t j k;have g:∀f:Fld,f.ok=(ZaA f.name&&Zag f.kind):=fun f=>by unfold Fld.ok;rw[Zgc]
 rw[Ybk];cases z<;>cases u<;>cases w<;>simp only[Yco,YaQ,Bool.and_true,Yb2,iff_self]<;>try (simp;done)
 have l:(c.flds.all fun f=>ZaA f.name&&(Zag f.kind&&!c.itf))=true↔(c.flds.all Fld.ok=true/\(c.itf=true->c.flds.length=0)):=by
  rw[YaF,YaF];constructor
  ·intro d;refine⟨fun x a=>?_,fun b=>?_⟩
   ·have:=d x a;rw[g];simp only[Yaw]at this⊢;exact⟨this.1,this.2.1⟩
   ·cases y:c.flds with
    |nil=>rfl
    |cons x E=>
     have:=d x (by rw[y];simp);rw[b]at this;simp at this
  ·rintro⟨d,b⟩x a;have:=d x a;rw[g]at this;simp only[Yaw,Ybj]at this⊢;refine⟨this.1,this.2,?_⟩;cases m:c.itf
   ·rfl
   ·have:=b m;rw[Ya0.1 this]at a;simp at a
 have p:(c.mths.all (mthB c))=true↔(c.mths.all Mth.ok=true/\(c.abs=false->c.mths.any Mth.abs=false)/\(c.itf=true->c.mths.all Mth.abs=true)):=by
  rw[YaF,YaF,YaF];unfold mthB;constructor
  ·intro d;refine⟨fun x a=>?_,fun v=>?_,fun b x a=>?_⟩
   ·have:=d x a;simp only[Yaw]at this;exact this.1
   ·rw[YaW];intro x a;have:=d x a;rw[v]at this;simp at this;simp[this.2.1]
   ·have:=d x a;rw[b]at this;simp at this;exact this.2.2
  ·rintro⟨h,i,A⟩x a;have:=h x a;simp only[Yaw,YaZ,Ybj];refine⟨this,?_,?_⟩
   ·cases n:c.abs
    ·left;have:=YaW.1 (i n) x a;simpa using this
    ·right;rfl
   ·cases r:c.itf
    ·left;rfl
    ·right;exact A r x a
 have s:(c.like.all fun x=>Zah x&&!(x==c.name))=true↔(c.like.all Zah=true/\¬c.name∈c.like):=by
  rw[YaF,YaF];constructor
  ·intro d;refine⟨fun x a=>?_,fun a=>?_⟩
   ·have:=d x a;simp only[Yaw]at this;exact this.1
   ·have:=d _ a;simp at this
  ·rintro⟨h,i⟩x a;simp only[Yaw,Ybj,Yah];exact⟨h x a,fun e=>i (e▸a)⟩
 have q:(!(c.sup::c.like).any fun D=>D==c.name)=true↔(c.name≠c.sup/\¬c.name∈c.like):=by
  rw[Ybj,Yb3,ne_eq,Zr0,Yai,not_or]
 simp only[Yaw,l,p,s,q,Ycg,YaZ,Ybj,Bool.and_eq_false_iff,Yah,YaP];cases r:c.itf<;>cases n:c.abs<;>cases C:c.fin<;>cases B:c.mths.any Mth.abs<;>simp<;>grind
theorem ZkG:∀l:List Ins,l.all Ins.fine=decide (allE l=0)
 |[]=>rfl
 |x::l=>by
  have b:=ZkG l;unfold allE;rw[Ycg,b];by_cases a:x.e=0
  ·rw[Yay a];simp[Ins.fine,a]
  ·rw[Yar a];simp[Ins.fine,a]
def mok0 (m:Mth):Bool:=ZaA m.name&&(decide (m.res=[]) || Zag m.res)
theorem Ztg (m:Mth):m.ok=((mok0 m&&m.params.all Zag)&&m.body):=by
 unfold Mth.ok mok0;rw[Zgc];generalize ZaA m.name=a;generalize m.params.all Zag=p;generalize decide (m.res=[])=d;generalize Zag m.res=e;generalize m.body=b;cases a<;>cases p<;>cases d<;>cases e<;>cases b<;>rfl
theorem ZhU {A:Nat->Prop}(m:Mth)(v:Value)(w:World)(P:MthR A w m v)(j:m.Fit) :
  Calls prog 162 #[v] w (Said m.ok w):=by
 obtain⟨bu,bt,bw,rfl,aS,ae,aq⟩:=P;obtain⟨ad,ai,rfl⟩:=aS.shape;obtain⟨Z,Y,rfl⟩:=ae.shape;obtain⟨ab,ap,rfl⟩:=aq.shape;have G:Below w.heap.size w (w.alloc (.cells #[.string (S m.name),.slice ad m.params.length ai,.string (S m.res),.bool m.abs,.int .i64 m.loc,.slice Z m.code.length Y,.slice ab m.cats.length ap] 26)):=(Yab _ w).alloc (Yad _) _;have t:=Hd G;have h:=Hd (Box.new w #[.string (S m.name),.slice ad m.params.length ai,.string (S m.res),.bool m.abs,.int .i64 m.loc,.slice Z m.code.length Y,.slice ab m.cats.length ap] 26);have af:=Hd (Src.elem (StrR.st.below aS G));have ao:=Hd (Src.elem (CatR.st.below aq G));have aC:Hid (∀W,Calls prog 160 #[.string (S m.name)] W fun e w'=>e=.returned (.bool (ZaA m.name))/\W=w'):=Hd (fun W=>ZdL m.name W j.name);have aI:Hid (∀s W,Zaw s->Calls prog 161 #[.string (S s)] W fun e w'=>e=.returned (.bool (Zag s))/\W=w'):=Hd (fun s W bf=>ZbR s W bf);have aZ:Hid (∀s W,Zaw s->Calls prog 159 #[.string (S s)] W fun e w'=>e=.returned (.bool (Zah s))/\W=w'):=Hd (fun s W bf=>Zct s W bf);have V:Hid (∀W,Below (w.alloc (.cells #[.string (S m.name),.slice ad m.params.length ai,.string (S m.res),.bool m.abs,.int .i64 m.loc,.slice Z m.code.length Y,.slice ab m.cats.length ap] 26)).heap.size (w.alloc (.cells #[.string (S m.name),.slice ad m.params.length ai,.string (S m.res),.bool m.abs,.int .i64 m.loc,.slice Z m.code.length Y,.slice ab m.cats.length ap] 26)) W->Calls prog 211 #[.slice Z m.code.length Y] W fun e w'=>e=.returned (.int .i64 (allE m.code:Nat))/\Below W.heap.size W w'):=Hd (fun W bm=>
  ZmS m.code _ W (Zow (InsR.st.below (InsR.st.below ae G) bm)) j.code j.n2)
 have bd:Hid (∀x∈m.params,Zaw x):=Hd j.params;have a2:Hid (∀x∈m.cats,Zaw x.cls):=Hd j.cats;have aN:Hid (Zaw m.res):=Hd j.res;have O:=Zci m.res [];have a5:=j.n1;have ba:=j.n2;have a8:=j.n3;have U:=Ztg m;have aH:m.body=if m.abs then decide (m.loc=0)&&(decide (m.code.length=0)&&decide (m.cats.length=0))else decide ((m.params.length:Int)<m.loc)&&(decide (0<m.code.length)&&(decide (allE m.code=0)&&m.cats.all (Cat.ok m.code.length))):=by
  rw[←ZkG];rfl
 rw[aH]at U;clear aS ae aq j G aH;obtain⟨R,bb⟩:∃R,R=m.ok:=⟨_,rfl⟩
 rw[←bb]at U⊢;have i:=Hd U;obtain⟨D,p⟩:∃n,n=m.params.length:=⟨_,rfl⟩
 obtain⟨n,r⟩:∃n,n=m.code.length:=⟨_,rfl⟩
 obtain⟨H,u⟩:∃n,n=m.cats.length:=⟨_,rfl⟩
 simp only[←p,←r,←u]at t h af ao V i a5 ba a8⊢;have ay:=Hd p;have aB:=Hd u;obtain⟨name,params,res,aP,loc,code,cats⟩:=m;dsimp only at *;obtain⟨aw,J⟩:∃bn,bn=mok0 { name:=name,params:=params,res:=res,abs:=aP,loc:=loc,code:=code,cats:=cats }:=⟨_,rfl⟩
 rw[←J]at i;unfold mok0 at J;dsimp only at J;have z:=Hd J;generalize ZaA name=bh at aC z;generalize decide (res=[])=aV at O z;generalize allE code=ac at V i;have a7:=Hd O;clear U bb p r u J O;go_enter func162,ntmps162
 go_upto_region 1 with fail;generalize w.alloc (.cells #[.string (S name),.slice ad D ai,.string (S res),.bool aP,.int .i64 loc,.slice Z n Y,.slice ab H ap] 26)=bc at t h af ao V⊢;obtain⟨B,a6⟩:∃B,B=w.heap.size:=⟨_,rfl⟩
 rw[←a6]at h⊢;clear a6;have bp:Hid (B<bc.heap.size):=Hd h.o.lt;go_cut [3] (fun am bl=>am=.bool aw/\bl=bc)
 case first=>
  have br:=h.o.cell 0 rfl;have bv:=h.o.cell 2 rfl;go_wp2_with fail;refine(aC.o _).mono ?_;rintro e aM⟨rfl,rfl⟩;have O:=a7.o;cases bh
  ·go_wp2;go_meet
   exact⟨by rw[z.o];rfl,rfl⟩
  cases aV
  ·go_wp2_with fail;refine(aI.o _ _ aN.o).mono ?_;rintro e aM⟨rfl,rfl⟩;clear O;generalize Zag res=aW at z⊢;go_wp2;go_meet
   exact⟨by rw[z.o];simp,rfl⟩
  ·go_wp2;go_meet
   exact⟨by rw[z.o];simp,rfl⟩
 case rest=>
  obtain⟨rfl,rfl⟩:=hcut;have aX:=h.o.cell 1 rfl;go_wp2;go_loop [3,4] (fun am aY=>∃(k:Nat) (ok:Bool),k<=D/\aY=.int .i64 k/\am=.bool ok/\ok=(aw&&(params.take k).all Zag)) (fun _ aY=>D-(intOf aY).toNat)
  case atStart=>exact⟨0,aw,Yao _,rfl,rfl,by simp⟩
  case round=>
   obtain⟨k,ok,bj,rfl,rfl,aK⟩:=hrel;have aj:=Hd aK;clear aK;by_cases ag:k<D
   ·have K:k<params.length:=by have:=ay.o;omega
    obtain⟨x,F⟩:∃x,params[k]?=some x:=⟨_,Yaa K⟩
    have q:=Yak (fun _=>False) wc;obtain⟨b,o,v,rfl,P,au,y⟩:=af.o k x F;have bi:=Hd (StrR.st.keep P q (fun _ _=>id));obtain rfl:=P;have aV:wc.cell? ⟨b,o+k,none⟩=some (.string (S x)):=q.cell (a:=⟨b,o+k,none⟩) (by have aW:=y 0 _ rfl;rw[YaH]at aW;exact aW) id;clear y au;have I:(aw&&(params.take (k+1)).all Zag)=(ok&&Zag x):=by rw[ZcD Zag params k x F,aj.o,Ybh]
    have f:=Hd I;have aa:=Hd (bd.o x (Yaf F));clear F K q I;have a9:(0:Int)<=k:=by omega
    have a3:(k:Int)<(D:Int):=by omega
    cases ok
    ·rw[YaQ]at f;go_wp2;go_round
     case rel=>exact⟨k+1,false,by omega,by go_num,rfl,f.o.symm⟩
     case measure=>simp[intOf];omega
    ·rw[YaG]at f;go_wp2_with fail;refine(aI.o _ _ aa.o).mono ?_;rintro e aM⟨rfl,rfl⟩;generalize Zag x=aW at f⊢;go_wp2;go_round
     case rel=>exact⟨k+1,aW,by omega,by go_num,rfl,f.o.symm⟩
     case measure=>simp[intOf];omega
   ·obtain rfl:D=k:=by omega
    rw[ay.o,Yaz (Yad _)]at aj;rw[←aj.o]at i;clear ag;have bk:=h.o.cell 3 rfl;have aT:=h.o.cell 4 rfl;have aQ:=h.o.cell 5 rfl;have aO:=h.o.cell 6 rfl;cases aP
    case true=>
     simp only[if_true]at i;cases ok
     ·obtain rfl:R=false:=by rw[i.o];rfl
      go_wp2;go_ret;exact⟨rfl,t.o⟩
     by_cases E:loc=0
     case neg=>
      have bq:(loc==0)=false:=by rw[Yah];exact E
      obtain rfl:R=false:=by rw[i.o];simp[E]
      clear E;go_wp2;go_ret;exact⟨rfl,t.o⟩
     subst E;by_cases C:n=0
     case neg=>
      have bo:((n:Int)==0)=false:=by rw[Yah];omega
      obtain rfl:R=false:=by rw[i.o];simp[C]
      clear C;go_wp2;go_ret;exact⟨rfl,t.o⟩
     subst C;by_cases Q:H=0
     case neg=>
      have a0:((H:Int)==0)=false:=by rw[Yah];omega
      obtain rfl:R=false:=by rw[i.o];simp[Q]
      clear Q;go_wp2;go_ret;exact⟨rfl,t.o⟩
     subst Q;obtain rfl:R=true:=by rw[i.o];rfl
     go_wp2;go_ret;exact⟨rfl,t.o⟩
    case false=>
     simp only[Yb2,if_false]at i;obtain⟨aR,ah⟩:∃bn,bn=ok:=⟨_,rfl⟩
     rw[←ah]at i;have a4:=Hd ah;clear ah aT;go_wp2;go_loopw [3,6] (fun am aU wr=>∃(k:Nat) (T:Bool),k<=H/\aU=.int .i64 k/\am=.bool T/\T=(aR&&(cats.take k).all (Cat.ok n))/\Below wc.heap.size wc wr) (fun _ aU _=>H-(intOf aU).toNat)
     case atStart=>exact⟨0,ok,Yao _,rfl,rfl,by rw[a4.o];simp,Yab _ _⟩
     case round=>
      clear aX bk aQ aO;obtain⟨k,T,bj,rfl,rfl,av,al⟩:=hrel;have ar:=Hd av;have l:=Hd al;have aO:=(h.o.below al).cell 6 rfl;clear av al;by_cases ag:k<H
      ·have K:k<cats.length:=by have:=aB.o;omega
       obtain⟨x,F⟩:∃x,cats[k]?=some x:=⟨_,Yaa K⟩
       have q:=Yae (S:=fun _=>False) l.o;obtain⟨b,o,v,rfl,P,au,y⟩:=ao.o k x F;have bi:=Hd (CatR.st.keep P q (fun _ _=>id));obtain rfl:=P;have aV:wr.cell? ⟨b,o+k*4,none⟩=some (.int .i64 x.fr):=q.cell (a:=⟨b,o+k*4,none⟩) (y 0 _ rfl) id;have bs:wr.cell? ⟨b,o+k*4+1,none⟩=some (.int .i64 x.till):=q.cell (a:=⟨b,o+k*4+1,none⟩) (y 1 _ rfl) id;have a1:wr.cell? ⟨b,o+k*4+2,none⟩=some (.int .i64 x.at_):=q.cell (a:=⟨b,o+k*4+2,none⟩) (y 2 _ rfl) id;have bx:wr.cell? ⟨b,o+k*4+3,none⟩=some (.string (S x.cls)):=q.cell (a:=⟨b,o+k*4+3,none⟩) (y 3 _ rfl) id;clear y au;have I:(aR&&(cats.take (k+1)).all (Cat.ok n))=(T&&Cat.ok n x):=by rw[ZcD (Cat.ok n) cats k x F,ar.o,Ybh]
       have f:=Hd I;have aa:=Hd (a2.o x (Yaf F));clear F K q I;have a9:(0:Int)<=k:=by omega
       have a3:(k:Int)<(H:Int):=by omega
       cases T
       ·rw[YaQ]at f;go_wp2;go_roundw
        case rel=>exact⟨k+1,false,by omega,by go_num,rfl,f.o.symm,Zaa l.o _⟩
        case measure=>simp[intOf];omega
       rw[YaG]at f;by_cases p:0<=x.fr
       case neg=>
        have aL:=Yan p;have g:Cat.ok n x=false:=by unfold Cat.ok;simp[p]
        rw[g]at f;clear g p;go_wp2;go_roundw
        case rel=>exact⟨k+1,false,by omega,by go_num,rfl,f.o.symm,Zaa l.o _⟩
        case measure=>simp[intOf];omega
       have aL:=Yas p;by_cases r:x.fr<x.till
       case neg=>
        have aA:=Yan r;have g:Cat.ok n x=false:=by unfold Cat.ok;simp[p,r]
        rw[g]at f;clear g p r;go_wp2;go_roundw
        case rel=>exact⟨k+1,false,by omega,by go_num,rfl,f.o.symm,Zaa l.o _⟩
        case measure=>simp[intOf];omega
       have aA:=Yas r;by_cases u:x.till<=(n:Int)
       case neg=>
        have ax:=Yan u;have g:Cat.ok n x=false:=by unfold Cat.ok;simp[p,r,u]
        rw[g]at f;clear g p r u;go_wp2;go_roundw
        case rel=>exact⟨k+1,false,by omega,by go_num,rfl,f.o.symm,Zaa l.o _⟩
        case measure=>simp[intOf];omega
       have ax:=Yas u;by_cases N:0<=x.at_
       case neg=>
        have aG:=Yan N;have g:Cat.ok n x=false:=by unfold Cat.ok;simp[p,r,u,N]
        rw[g]at f;clear g p r u N;go_wp2;go_roundw
        case rel=>exact⟨k+1,false,by omega,by go_num,rfl,f.o.symm,Zaa l.o _⟩
        case measure=>simp[intOf];omega
       have aG:=Yas N;by_cases X:x.at_<(n:Int)
       case neg=>
        have aF:=Yan X;have g:Cat.ok n x=false:=by unfold Cat.ok;simp[p,r,u,N,X]
        rw[g]at f;clear g p r u N X;go_wp2;go_roundw
        case rel=>exact⟨k+1,false,by omega,by go_num,rfl,f.o.symm,Zaa l.o _⟩
        case measure=>simp[intOf];omega
       have aF:=Yas X;go_wp2_with fail;refine(aZ.o _ _ aa.o).mono ?_;rintro e aM⟨rfl,rfl⟩;have g:Cat.ok n x=Zah x.cls:=by unfold Cat.ok;simp[p,r,u,N,X]
       rw[g]at f;clear g p r u N X aL aA ax aG aF;generalize Zah x.cls=aW at f⊢;go_wp2;go_roundw
       case rel=>exact⟨k+1,aW,by omega,by go_num,rfl,f.o.symm,Zaa l.o _⟩
       case measure=>simp[intOf];omega
      ·obtain rfl:H=k:=by omega
       rw[aB.o,Yaz (Yad _)]at ar;have ak:R=(T&&(decide (0<n)&&(decide ((D:Int)<loc)&&decide (ac=0)))):=by
        rw[i.o,ar.o];generalize cats.all (Cat.ok n)=a;generalize decide (0<n)=b;generalize decide ((D:Int)<loc)=c;generalize decide (ac=0)=d;cases aR<;>cases a<;>cases b<;>cases c<;>cases d<;>rfl
       have L:=Hd ak;have M:=Hd (t.o.trans (l.o.mono t.o.size));have aX:=(h.o.below l.o).cell 1 rfl;have aT:=(h.o.below l.o).cell 4 rfl;have aQ:=(h.o.below l.o).cell 5 rfl;clear ak ag i;cases T
       ·obtain rfl:R=false:=by rw[L.o];rfl
        go_wp2;go_ret;exact⟨rfl,M.o⟩
       by_cases E:0<n
       case neg=>
        have bg:¬(0<(n:Int)):=by omega
        obtain rfl:R=false:=by rw[L.o];simp[E]
        clear E;go_wp2;go_ret;exact⟨rfl,M.o⟩
       have bg:0<(n:Int):=by omega
       by_cases C:(D:Int)<loc
       case neg=>
        have a1:=Yan C;obtain rfl:R=false:=by rw[L.o];simp[C]
        clear C;go_wp2;go_ret;exact⟨rfl,M.o⟩
       have a1:=Yas C;have az:R=decide (ac=0):=by rw[L.o];simp[E,C]
       have aD:=Hd az;clear az E L;go_wp2_with fail;refine(V.o _ l.o).mono ?_;rintro e w2⟨rfl,aE⟩;have aJ:=Hd (M.o.trans (aE.mono M.o.size));clear aE aX aT aQ aO;by_cases Q:ac=0
       ·subst Q;obtain rfl:R=true:=by rw[aD.o];rfl
        go_wp2;go_ret;exact⟨rfl,aJ.o⟩
       ·have a0:((ac:Int)==0)=false:=by rw[Yah];omega
        obtain rfl:R=false:=by rw[aD.o];simp[Q]
        clear Q;go_wp2;go_ret;exact⟨rfl,aJ.o⟩
def stB {α:Type}(A:α->Bool)(a:α->List UInt8)(l:List α)(k:Nat):Bool:=(l.take k).all A&&ZbG (l.map a) k
theorem Zh0 {α:Type}(A:α->Bool)(a:α->List UInt8)(l:List α):stB A a l 0=true:=by simp[stB,ZdG]
theorem ZhZ {α:Type}(A:α->Bool)(c:α->List UInt8)(l:List α)(k:Nat)(x:α)(g:l[k]?=some x):stB A c l (k+1)=((stB A c l k&&A x)&&!((l.take k).any fun f=>c f==c x)):=by
 unfold stB;rw[ZcD A l k x g,ZdF,Zfv c l k x g];generalize (l.take k).all A=a;generalize ZbG (l.map c) k=b;generalize A x=d;generalize ((l.take k).any fun f=>c f==c x)=e;cases a<;>cases b<;>cases d<;>cases e<;>rfl
def ZgE (s:List UInt8):List UInt8:=s
def Zl1 (a:List UInt8)(x:List UInt8):Bool:=Zah x&&!(x==a)
def fldA (itf:Bool)(f:Fld):Bool:=ZaA f.name&&(Zag f.kind&&!itf)
def mthA (itf a:Bool)(m:Mth):Bool:=m.ok&&((!m.abs || a)&&(!itf || m.abs))
def ZqN (c:Cls):Bool:=(!c.itf || (c.abs&&decide (c.sup=objL)))&&!(c.abs&&c.fin)
theorem Zkm (c:Cls):c.fine=((((Znt c&&stB (Zl1 c.name) ZgE c.like c.like.length)&&stB (fldA c.itf) Fld.name c.flds c.flds.length)&&stB (mthA c.itf c.abs) Mth.name c.mths c.mths.length)&&ZqN c):=by
 rw[←Zpy];have a:c.like.map ZgE=c.like:=List.map_id' _;unfold Zpx Zsm fldR mthR stB ZqN Zl1 fldA mthA mthB;rw[a]
theorem ZaP {w V:World}(a:Below w.heap.size w V)(n:Nat):Below w.heap.size w (V.drewN n):=a.trans ((ZaD V n).mono a.size)
theorem ZhW {A:Nat->Prop}(c:Cls)(v:Value)(w:World)(ae:ClsR A w c v)(y:c.Fit) :
  Calls prog 94 #[v] w (Said c.fine w):=by
 obtain⟨co,cp,cm,rfl,bo,bl,bi⟩:=ae;obtain⟨lo,bx,rfl⟩:=bo.shape;obtain⟨bp,fc,rfl⟩:=bl.shape;obtain⟨bs,bm,rfl⟩:=bi.shape;have ak:Below w.heap.size w (w.alloc (.cells #[.string (S c.name),.string (S c.sup),.slice lo c.like.length bx,.bool c.itf,.bool c.abs,.bool c.fin,.slice bp c.flds.length fc,.slice bs c.mths.length bm] 70)):=(Yab _ w).alloc (Yad _) _;have aA:=Hd ak;have d:=Hd (Box.new w #[.string (S c.name),.string (S c.sup),.slice lo c.like.length bx,.bool c.itf,.bool c.abs,.bool c.fin,.slice bp c.flds.length fc,.slice bs c.mths.length bm] 70);have aC:=Hd (Src.elem (StrR.st.below bo ak));have az:=Hd (Src.elem (FldR.st.below bl ak));have aB:=Hd (Src.elem (MthR.st.below bi ak));have bI:Hid (∀s W,Zaw s->Calls prog 160 #[.string (S s)] W fun e w'=>e=.returned (.bool (ZaA s))/\W=w'):=Hd (fun s W a2=>ZdL s W a2);have bT:Hid (∀s W,Zaw s->Calls prog 161 #[.string (S s)] W fun e w'=>e=.returned (.bool (Zag s))/\W=w'):=Hd (fun s W a2=>ZbR s W a2);have aF:Hid (∀s W,Zaw s->Calls prog 159 #[.string (S s)] W fun e w'=>e=.returned (.bool (Zah s))/\W=w'):=Hd (fun s W a2=>Zct s W a2);have b0:Hid (∀x∈c.mths,x.Fit):=Hd y.mths;have bA:Hid (∀x∈c.like,Zaw x):=Hd y.like;have b1:Hid (∀x∈c.flds,Zaw x.name/\Zaw x.kind):=Hd y.flds;have bE:Hid (Zaw c.name):=Hd y.name;have bJ:Hid (Zaw c.sup):=Hd y.sup;have bL:=y.n1;have bW:=y.n2;have bO:=y.n3;have z:=Hd (Zkm c);clear bo bl bi y ak;obtain⟨R,bY⟩:∃R,R=c.fine:=⟨_,rfl⟩
 rw[←bY]at z⊢;obtain⟨aw,bq⟩:∃n,n=c.like.length:=⟨_,rfl⟩
 obtain⟨av,bw⟩:∃n,n=c.flds.length:=⟨_,rfl⟩
 obtain⟨ar,bk⟩:∃n,n=c.mths.length:=⟨_,rfl⟩
 simp only[←bq,←bw,←bk]at aA d aC az aB z bL bW bO⊢;have a1:=Hd bq;have ba:=Hd bw;have a9:=Hd bk;obtain⟨name,sup,like,itf,K,fin,flds,mths⟩:=c;dsimp only at *;obtain⟨a0,am⟩:∃bv,bv=Znt { name:=name,sup:=sup,like:=like,itf:=itf,abs:=K,fin:=fin,flds:=flds,mths:=mths }:=⟨_,rfl⟩
 obtain⟨cl,ap⟩:∃bv,bv=ZqN { name:=name,sup:=sup,like:=like,itf:=itf,abs:=K,fin:=fin,flds:=flds,mths:=mths }:=⟨_,rfl⟩
 rw[←am,←ap]at z;unfold Znt at am;unfold ZqN at ap;dsimp only at am ap;have af:=Hd am;have aJ:=Hd ap;have ck:=Zaf name;have bZ:=Zaf sup;clear bY bq bw bk am ap;go_enter func94,ntmps94
 go_upto_region 1 with fail;generalize w.alloc (.cells #[.string (S name),.string (S sup),.slice lo aw bx,.bool itf,.bool K,.bool fin,.slice bp av fc,.slice bs ar bm] 70)=ch at aA d aC az aB⊢;obtain⟨B,bM⟩:∃B,B=w.heap.size:=⟨_,rfl⟩
 rw[←bM]at d⊢;clear bM;go_cut [3] (fun u ax=>u=.bool a0/\ax=ch)
 case first=>
  have b7:=d.o.cell 0 rfl;have cj:=d.o.cell 1 rfl;go_wp2_with fail;refine(aF.o _ _ bE.o).mono ?_;rintro e bj⟨rfl,rfl⟩;generalize Zah name=b4 at af⊢;cases b4
  ·go_wp2;go_meet
   exact⟨by rw[af.o];rfl,rfl⟩
  go_wp2_with fail;refine(aF.o _ _ bJ.o).mono ?_;rintro e bj⟨rfl,rfl⟩;generalize Zah sup=cd at af⊢;cases cd
  ·go_wp2;go_meet
   exact⟨by rw[af.o];rfl,rfl⟩
  generalize cr:(name==sup)=bz at af⊢;cases bz
  all_goals
   go_wp2;go_meet
   exact⟨by rw[af.o];rfl,rfl⟩
 case rest=>
  obtain⟨rfl,rfl⟩:=hcut;go_wp2;go_loopw [3,4] (fun u ac wr=>∃(k:Nat) (ok:Bool),k<=aw/\ac=.int .i64 k/\u=.bool ok/\ok=(a0&&stB (Zl1 name) ZgE like k)/\Below wc.heap.size wc wr) (fun _ ac _=>aw-(intOf ac).toNat)
  case atStart=>exact⟨0,a0,Yao _,rfl,rfl,by rw[Zh0];simp,Yab _ _⟩
  case round=>
   obtain⟨k,ok,bP,rfl,rfl,Y,G⟩:=hrel;have U:=Hd Y;have f:=Hd G;have bS:=(d.o.below G).cell 2 rfl;clear Y G;by_cases al:k<aw
   ·have V:k<like.length:=by have:=a1.o;omega
    obtain⟨x,L⟩:∃x,like[k]?=some x:=⟨_,Yaa V⟩
    have g:=Yae (S:=fun _=>False) f.o;obtain⟨b,o,v,rfl,ae,ao,j⟩:=aC.o k x L;have bn:=Hd (StrR.st.keep ae g (fun _ _=>id));obtain rfl:=ae;have aX:wr.cell? ⟨b,o+k,none⟩=some (.string (S x)):=g.cell (a:=⟨b,o+k,none⟩) (by have bz:=j 0 _ rfl;rw[YaH]at bz;exact bz) id;clear j ao;have T:(a0&&stB (Zl1 name) ZgE like (k+1))=((ok&&(Zl1 name) x)&&!((like.take k).any fun C=>ZgE C==ZgE x)):=by
     rw[ZhZ _ _ _ _ _ L,U.o,Ybh,Ybh,Ybh]
    have q:=Hd T;have F:=Yaf L;clear T;have bg:(0:Int)<=k:=by omega
    have a7:(k:Int)<(aw:Int):=by omega
    have b7:=(d.o.below f.o).cell 0 rfl;have ay:=Hd (bA.o x F);have ag:Hid (∀W,Calls prog 159 #[.string (S x)] W fun e w'=>e=.returned (.bool (Zah x))/\w'=W):=Hd (fun W=>(aF.o x W ay.o).mono (fun _ _ a2=>⟨a2.1,a2.2.symm⟩));have a4:=Zaf x;rw[show Zl1 name x=(Zah x&&!(x==name))from rfl]at q;have t:=f;have aq:Hid (∀W,Below wr.heap.size wr W->W.cell? ⟨b,o+k,none⟩=some (.string (S x))):=Hd (fun W aW=>(Yae (S:=fun _=>False) aW).cell aX id);clear L V g F;obtain⟨aj,aa⟩:∃aj,aj=(ok&&(Zah x&&!(x==name))):=⟨_,rfl⟩
    rw[←aa]at q;have l:=Hd aa;clear aa;go_upto_region 5 with fail;go_cut [3]from 26 to 70 (fun u ax=>u=.bool aj/\Below wr.heap.size wr ax)
    case first=>
     cases ok
     ·go_quiet (fail)
      go_wp2_with fail;go_meet
      exact⟨by rw[l.o];rfl,ZaP (Yab _ _) _⟩
     generalize Zah x=aZ at ag l;cases aZ
     ·go_quiet ((go_at_call 159;exact Calls.quiet_of_same (ag.o _)))
      go_wp2_with fail;go_meet
      exact⟨by rw[l.o];rfl,ZaP (Yab _ _) _⟩
     generalize br:(x==name)=p at l;cases p
     all_goals
      go_quiet ((go_at_call 159;exact Calls.quiet_of_same (ag.o _)))
      go_wp2_with fail;go_meet
      exact⟨by rw[l.o];rfl,ZaP (Yab _ _) _⟩
    case rest=>
     obtain⟨rfl,J⟩:=hcut;have aR:=Hd J;clear J;go_wp2;have O:=q;clear q;go_loopw [3,5] (fun u ab aP=>∃(i:Nat) (r:Bool),i<=k/\ab=.int .i64 i/\u=.bool r/\r=(aj&&!((like.take i).any fun C=>ZgE C==ZgE x))/\Below wr.heap.size wr aP) (fun _ ab _=>k-(intOf ab).toNat)
     case atStart=>exact⟨0,aj,Yao _,rfl,rfl,by simp,aR.o⟩
     case round=>
      obtain⟨i,r,bV,rfl,rfl,N,m⟩:=hrel;have X:=Hd N;have D:=Hd m;have I:=Hd (Zae t.o m);have bS:=(d.o.below I.o).cell 2 rfl;have aY:=aq.o _ m;clear N m;by_cases a3:i<k
      ·have P:i<like.length:=by have:=a1.o;omega
       obtain⟨C,ad⟩:∃C,like[i]?=some C:=⟨_,Yaa P⟩
       have M:=Yae (S:=fun _=>False) I.o;obtain⟨aK,aQ,bF,Q,ai,_,E⟩:=aC.o i C ad;obtain⟨aS,aU⟩:b=aK/\o=aQ:=by simpa using Q
       subst aS aU;obtain rfl:=ai;have bH:=M.cell (a:=⟨b,o+i,none⟩) (by have bz:=E 0 _ rfl;rw[YaH]at bz;exact bz) id;have a8:=Zaf C;have Z:(aj&&!((like.take (i+1)).any fun C=>ZgE C==ZgE x))=(r&&!(C==x)):=by
        rw[Zap _ _ _ _ ad,X.o,Bool.not_or,Ybh];try rfl
       have h:=Hd Z;clear ad P M Q  E Z;have a6:(0:Int)<=i:=by omega
       have bd:(i:Int)<(k:Int):=by omega
       have bf:(i:Int)<(aw:Int):=by omega
       cases r
       ·rw[YaQ]at h;go_wp2_with (go_quiet (fail))
        go_roundw
        case rel=>exact⟨i+1,false,by omega,by go_num,rfl,h.o.symm,ZaP D.o _⟩
        case measure=>simp[intOf];omega
       ·rw[YaG]at h;generalize br:(C==x)=p at h;cases p
        all_goals
         go_wp2_with (go_quiet (fail))
         go_roundw
         case rel=>exact⟨i+1,_,by omega,by go_num,rfl,h.o.symm,ZaP D.o _⟩
         case measure=>simp[intOf];omega
      ·obtain rfl:k=i:=by omega
       rw[←X.o]at O;clear aY;go_wp2;go_roundw
       case rel=>exact⟨k+1,r,by omega,by go_num,rfl,O.o.symm,Zae f.o D.o⟩
       case measure=>simp[intOf];omega
   ·obtain rfl:aw=k:=by omega
    as_aux_lemma=>
      rw[←U.o]at z;obtain⟨bX,au⟩:∃bv,bv=ok:=⟨_,rfl⟩
      rw[←au]at z;have bC:=Hd au;have aI:=f;clear au al;go_wp2;clear bS;go_loopw [3,6] (fun u ac wr=>∃(k:Nat) (ok:Bool),k<=av/\ac=.int .i64 k/\u=.bool ok/\ok=(bX&&stB (fldA itf) Fld.name flds k)/\Below wc.heap.size wc wr) (fun _ ac _=>av-(intOf ac).toNat)
      case atStart=>exact⟨0,ok,Yao _,rfl,rfl,by rw[Zh0];rw[bC.o];simp,aI.o⟩
      case round=>
       obtain⟨k,ok,bP,rfl,rfl,Y,G⟩:=hrel;have U:=Hd Y;have f:=Hd G;have bD:=(d.o.below G).cell 6 rfl;clear Y G;by_cases al:k<av
       ·have V:k<flds.length:=by have:=ba.o;omega
        obtain⟨x,L⟩:∃x,flds[k]?=some x:=⟨_,Yaa V⟩
        have g:=Yae (S:=fun _=>False) f.o;obtain⟨b,o,v,rfl,ae,ao,j⟩:=az.o k x L;have bn:=Hd (FldR.st.keep ae g (fun _ _=>id));obtain rfl:=ae;have aX:wr.cell? ⟨b,o+k*3,none⟩=some (.string (S x.name)):=g.cell (a:=⟨b,o+k*3,none⟩) (j 0 _ rfl) id;have bK:wr.cell? ⟨b,o+k*3+1,none⟩=some (.string (S x.kind)):=g.cell (a:=⟨b,o+k*3+1,none⟩) (j 1 _ rfl) id;have bB:wr.cell? ⟨b,o+k*3+2,none⟩=some (.bool x.tr):=g.cell (a:=⟨b,o+k*3+2,none⟩) (j 2 _ rfl) id;clear j ao;have T:(bX&&stB (fldA itf) Fld.name flds (k+1))=((ok&&(fldA itf) x)&&!((flds.take k).any fun C=>Fld.name C==Fld.name x)):=by
         rw[ZhZ _ _ _ _ _ L,U.o,Ybh,Ybh,Ybh]
        have q:=Hd T;have F:=Yaf L;clear T;have bg:(0:Int)<=k:=by omega
        have a7:(k:Int)<(av:Int):=by omega
        have bU:=(d.o.below f.o).cell 3 rfl;have ay:=Hd (b1.o x F);have ag:Hid (Calls prog 160 #[.string (S x.name)] wr fun e w'=>e=.returned (.bool (ZaA x.name))/\wr=w'):=Hd (bI.o x.name wr ay.o.1);have bc:Hid (Calls prog 161 #[.string (S x.kind)] wr fun e w'=>e=.returned (.bool (Zag x.kind))/\wr=w'):=Hd (bT.o x.kind wr ay.o.2);have a4:=Zaf x.name;rw[show fldA itf x=(ZaA x.name&&(Zag x.kind&&!itf))from rfl]at q;have t:=f;have aq:Hid (∀W,Below wr.heap.size wr W->W.cell? ⟨b,o+k*3,none⟩=some (.string (S x.name))):=Hd (fun W aW=>(Yae (S:=fun _=>False) aW).cell aX id);clear L V g F;obtain⟨aj,aa⟩:∃aj,aj=(ok&&(ZaA x.name&&(Zag x.kind&&!itf))):=⟨_,rfl⟩
        rw[←aa]at q;have l:=Hd aa;clear aa;go_upto_region 13 with fail;go_cut [3]from 71 to 122 (fun u ax=>u=.bool aj/\Below wr.heap.size wr ax)
        case first=>
         cases ok
         ·go_wp2_with fail;go_meet
          exact⟨by rw[l.o];rfl,Yab _ _⟩
         generalize ZaA x.name=aZ at ag l;go_wp2_with fail;refine ag.o.mono ?_;rintro e bj⟨rfl,rfl⟩;cases aZ
         ·go_wp2_with fail;go_meet
          exact⟨by rw[l.o];rfl,Yab _ _⟩
         generalize Zag x.kind=ca at bc l;go_wp2_with fail;refine bc.o.mono ?_;rintro e bj⟨rfl,rfl⟩;cases ca
         all_goals
          go_wp2_with fail;go_meet
          exact⟨by rw[l.o];rfl,Yab _ _⟩
        case rest=>
         obtain⟨rfl,J⟩:=hcut;have aR:=Hd J;clear J;go_wp2;have O:=q;clear q;go_loopw [3,7] (fun u ab aP=>∃(i:Nat) (r:Bool),i<=k/\ab=.int .i64 i/\u=.bool r/\r=(aj&&!((flds.take i).any fun C=>Fld.name C==Fld.name x))/\Below wr.heap.size wr aP) (fun _ ab _=>k-(intOf ab).toNat)
         case atStart=>exact⟨0,aj,Yao _,rfl,rfl,by simp,aR.o⟩
         case round=>
          obtain⟨i,r,bV,rfl,rfl,N,m⟩:=hrel;have X:=Hd N;have D:=Hd m;have I:=Hd (Zae t.o m);have bD:=(d.o.below I.o).cell 6 rfl;have aY:=aq.o _ m;clear N m;by_cases a3:i<k
          ·have P:i<flds.length:=by have:=ba.o;omega
           obtain⟨C,ad⟩:∃C,flds[i]?=some C:=⟨_,Yaa P⟩
           have M:=Yae (S:=fun _=>False) I.o;obtain⟨aK,aQ,bF,Q,ai,_,E⟩:=az.o i C ad;obtain⟨aS,aU⟩:b=aK/\o=aQ:=by simpa using Q
           subst aS aU;obtain rfl:=ai;have bH:=M.cell (a:=⟨b,o+i*3,none⟩) (E 0 _ rfl) id;have a8:=Zaf C.name;have Z:(aj&&!((flds.take (i+1)).any fun C=>Fld.name C==Fld.name x))=(r&&!(C.name==x.name)):=by
            rw[Zap _ _ _ _ ad,X.o,Bool.not_or,Ybh];try rfl
           have h:=Hd Z;clear ad P M Q  E Z;have a6:(0:Int)<=i:=by omega
           have bd:(i:Int)<(k:Int):=by omega
           have bf:(i:Int)<(av:Int):=by omega
           cases r
           ·rw[YaQ]at h;go_wp2_with (go_quiet (fail))
            go_roundw
            case rel=>exact⟨i+1,false,by omega,by go_num,rfl,h.o.symm,ZaP D.o _⟩
            case measure=>simp[intOf];omega
           ·rw[YaG]at h;generalize br:(C.name==x.name)=p at h;cases p
            all_goals
             go_wp2_with (go_quiet (fail))
             go_roundw
             case rel=>exact⟨i+1,_,by omega,by go_num,rfl,h.o.symm,ZaP D.o _⟩
             case measure=>simp[intOf];omega
          ·obtain rfl:k=i:=by omega
           rw[←X.o]at O;clear aY;go_wp2;go_roundw
           case rel=>exact⟨k+1,r,by omega,by go_num,rfl,O.o.symm,Zae f.o D.o⟩
           case measure=>simp[intOf];omega
       ·obtain rfl:av=k:=by omega
        as_aux_lemma=>
          rw[←U.o]at z;obtain⟨bQ,au⟩:∃bv,bv=ok:=⟨_,rfl⟩
          rw[←au]at z;have bG:=Hd au;have aI:=f;clear au al;go_wp2;clear bD;go_loopw [3,8] (fun u ac wr=>∃(k:Nat) (ok:Bool),k<=ar/\ac=.int .i64 k/\u=.bool ok/\ok=(bQ&&stB (mthA itf K) Mth.name mths k)/\Below wc.heap.size wc wr) (fun _ ac _=>ar-(intOf ac).toNat)
          case atStart=>exact⟨0,ok,Yao _,rfl,rfl,by rw[Zh0];rw[bG.o];simp,aI.o⟩
          case round=>
           obtain⟨k,ok,bP,rfl,rfl,Y,G⟩:=hrel;have U:=Hd Y;have f:=Hd G;have bR:=(d.o.below G).cell 7 rfl;clear Y G;by_cases al:k<ar
           ·have V:k<mths.length:=by have:=a9.o;omega
            obtain⟨x,L⟩:∃x,mths[k]?=some x:=⟨_,Yaa V⟩
            have g:=Yae (S:=fun _=>False) f.o;obtain⟨b,o,v,rfl,ae,ao,j⟩:=aB.o k x L;have bn:=Hd (MthR.st.keep ae g (fun _ _=>id));obtain⟨_,_,_,rfl,⟨aH,aL,rfl⟩,⟨aN,aM,rfl⟩,⟨aG,aV,rfl⟩⟩:=Zaj ae;have aX:wr.cell? ⟨b,o+k*7,none⟩=some (.string (S x.name)):=g.cell (a:=⟨b,o+k*7,none⟩) (j 0 _ rfl) id;have bK:wr.cell? ⟨b,o+k*7+1,none⟩=some (.slice aH x.params.length aL):=g.cell (a:=⟨b,o+k*7+1,none⟩) (j 1 _ rfl) id;have bB:wr.cell? ⟨b,o+k*7+2,none⟩=some (.string (S x.res)):=g.cell (a:=⟨b,o+k*7+2,none⟩) (j 2 _ rfl) id;have cf:wr.cell? ⟨b,o+k*7+3,none⟩=some (.bool x.abs):=g.cell (a:=⟨b,o+k*7+3,none⟩) (j 3 _ rfl) id;have ci:wr.cell? ⟨b,o+k*7+4,none⟩=some (.int .i64 x.loc):=g.cell (a:=⟨b,o+k*7+4,none⟩) (j 4 _ rfl) id;have ce:wr.cell? ⟨b,o+k*7+5,none⟩=some (.slice aN x.code.length aM):=g.cell (a:=⟨b,o+k*7+5,none⟩) (j 5 _ rfl) id;have b5:wr.cell? ⟨b,o+k*7+6,none⟩=some (.slice aG x.cats.length aV):=g.cell (a:=⟨b,o+k*7+6,none⟩) (j 6 _ rfl) id;clear j ao;have T:(bQ&&stB (mthA itf K) Mth.name mths (k+1))=((ok&&(mthA itf K) x)&&!((mths.take k).any fun C=>Mth.name C==Mth.name x)):=by
             rw[ZhZ _ _ _ _ _ L,U.o,Ybh,Ybh,Ybh]
            have q:=Hd T;have F:=Yaf L;clear T;have bg:(0:Int)<=k:=by omega
            have a7:(k:Int)<(ar:Int):=by omega
            have bN:=Hd (b0.o x F);have a5:=Hd (show Below wr.heap.size wr (wr.alloc (.cells #[.string (S x.name),.slice aH x.params.length aL,.string (S x.res),.bool x.abs,.int .i64 x.loc,.slice aN x.code.length aM,.slice aG x.cats.length aV] 26))from(Yab _ wr).alloc (Yad _) _);have H:=Hd (Box.new wr #[.string (S x.name),.slice aH x.params.length aL,.string (S x.res),.bool x.abs,.int .i64 x.loc,.slice aN x.code.length aM,.slice aG x.cats.length aV] 26);have aO:=Hd (ZhU (A:=A) x _ (wr.alloc (.cells #[.string (S x.name),.slice aH x.params.length aL,.string (S x.res),.bool x.abs,.int .i64 x.loc,.slice aN x.code.length aM,.slice aG x.cats.length aV] 26)) (MthR.st.keep bn.o ((Yak (fun _=>False) wr).alloc _) (fun _ _=>id)) bN.o);have a4:=Zaf x.name;rw[show mthA itf K x=(x.ok&&((!x.abs || K)&&(!itf || x.abs)))from rfl]at q;clear L V g F;go_upto_region 22 with fail;generalize wr.alloc (.cells #[.string (S x.name),.slice aH x.params.length aL,.string (S x.res),.bool x.abs,.int .i64 x.loc,.slice aN x.code.length aM,.slice aG x.cats.length aV] 26)=W2 at a5 H aO⊢;generalize wr.heap.size=cq at H⊢;clear aX bK bB cf ci ce b5 bR;have bb:=Hd (Zae f.o a5.o);obtain⟨aj,aa⟩:∃aj,aj=(ok&&(x.ok&&((!x.abs || K)&&(!itf || x.abs)))):=⟨_,rfl⟩
            rw[←aa]at q;have l:=Hd aa;clear aa;go_cut [3]from 123 to 174 (fun u ax=>u=.bool aj/\Below W2.heap.size W2 ax)
            case first=>
             cases ok
             ·go_wp2_with fail;go_meet
              exact⟨by rw[l.o];rfl,Yab _ _⟩
             have b8:=H.o.cell 0 rfl;have cb:=H.o.cell 1 rfl;have b6:=H.o.cell 2 rfl;have bt:=H.o.cell 3 rfl;have b9:=H.o.cell 4 rfl;have b2:=H.o.cell 5 rfl;have b3:=H.o.cell 6 rfl;generalize x.ok=aZ at aO l;go_wp2_with fail;refine aO.o.mono ?_;rintro e cs⟨rfl,aD⟩;have bh:=Hd aD;have t:=Hd (Zae bb.o aD);have aT:=Hd (H.o.below aD);clear b8 cb b6 bt b9 b2 b3 aD;have bt:=aT.o.cell 3 rfl;have bU:=(d.o.below t.o).cell 3 rfl;have cg:=(d.o.below t.o).cell 4 rfl;cases aZ
             ·go_wp2_with fail;go_meet
              exact⟨by rw[l.o];rfl,bh.o⟩
             generalize x.abs=cc at bt l;cases cc<;>cases K<;>cases itf
             all_goals
              go_wp2_with fail;go_meet
              exact⟨by rw[l.o];rfl,bh.o⟩
            case rest=>
             obtain⟨rfl,J⟩:=hcut;have t:=Hd (Zae bb.o J);have aT:=Hd (H.o.below J);clear J;have aq:Hid (∀W,Below wc.heap.size wc W->W.cell? ⟨cq,0,none⟩=some (.string (S x.name))):=Hd (fun W aW=>(aT.o.below aW).cell 0 rfl);go_wp2;have O:=q;clear q;go_loopw [3,10] (fun u ab aP=>∃(i:Nat) (r:Bool),i<=k/\ab=.int .i64 i/\u=.bool r/\r=(aj&&!((mths.take i).any fun C=>Mth.name C==Mth.name x))/\Below wc.heap.size wc aP) (fun _ ab _=>k-(intOf ab).toNat)
             case atStart=>exact⟨0,aj,Yao _,rfl,rfl,by simp,Yab _ _⟩
             case round=>
              obtain⟨i,r,bV,rfl,rfl,N,m⟩:=hrel;have X:=Hd N;have D:=Hd m;have I:=Hd (Zae t.o m);have bR:=(d.o.below I.o).cell 7 rfl;have aY:=aq.o _ m;clear N m;by_cases a3:i<k
              ·have P:i<mths.length:=by have:=a9.o;omega
               obtain⟨C,ad⟩:∃C,mths[i]?=some C:=⟨_,Yaa P⟩
               have M:=Yae (S:=fun _=>False) I.o;obtain⟨aK,aQ,bF,Q,ai,_,E⟩:=aB.o i C ad;obtain⟨aS,aU⟩:b=aK/\o=aQ:=by simpa using Q
               subst aS aU;obtain⟨_,_,_,rfl,_⟩:=Zaj ai;have bH:=M.cell (a:=⟨b,o+i*7,none⟩) (E 0 _ rfl) id;have a8:=Zaf C.name;have Z:(aj&&!((mths.take (i+1)).any fun C=>Mth.name C==Mth.name x))=(r&&!(C.name==x.name)):=by
                rw[Zap _ _ _ _ ad,X.o,Bool.not_or,Ybh];try rfl
               have h:=Hd Z;clear ad P M Q ai E Z;have a6:(0:Int)<=i:=by omega
               have bd:(i:Int)<(k:Int):=by omega
               have bf:(i:Int)<(ar:Int):=by omega
               cases r
               ·rw[YaQ]at h;go_wp2_with (go_quiet (fail))
                go_roundw
                case rel=>exact⟨i+1,false,by omega,by go_num,rfl,h.o.symm,ZaP D.o _⟩
                case measure=>simp[intOf];omega
               ·rw[YaG]at h;generalize br:(C.name==x.name)=p at h;cases p
                all_goals
                 go_wp2_with (go_quiet (fail))
                 go_roundw
                 case rel=>exact⟨i+1,_,by omega,by go_num,rfl,h.o.symm,ZaP D.o _⟩
                 case measure=>simp[intOf];omega
              ·obtain rfl:k=i:=by omega
               rw[←X.o]at O;clear aY;go_wp2;go_roundw
               case rel=>exact⟨k+1,r,by omega,by go_num,rfl,O.o.symm,Zae t.o D.o⟩
               case measure=>simp[intOf];omega
           ·obtain rfl:ar=k:=by omega
            rw[←U.o]at z;have ah:=Hd (aA.o.trans (f.o.mono aA.o.size));have cj:=(d.o.below f.o).cell 1 rfl;have bU:=(d.o.below f.o).cell 3 rfl;have cg:=(d.o.below f.o).cell 4 rfl;have cn:=(d.o.below f.o).cell 5 rfl;have aE:=Zci sup [79,98,106,101,99,116];rw[show(decide (sup=[79,98,106,101,99,116]))=decide (sup=objL)from rfl]at aE;generalize decide (sup=objL)=bu at aE aJ;clear al bZ;cases ok
            ·obtain rfl:R=false:=by rw[z.o];rfl
             go_wp2;go_ret;exact⟨rfl,ah.o⟩
            rw[YaG]at z;have l:Hid (R=((!itf || (K&&bu))&&!(K&&fin))):=Hd (by rw[z.o,aJ.o]);clear z aJ;cases itf
            ·clear aE;cases K
             ·obtain rfl:R=true:=by rw[l.o];cases fin<;>rfl
              go_wp2;go_ret;exact⟨rfl,ah.o⟩
             ·obtain rfl:R = !fin:=by rw[l.o];cases fin<;>rfl
              go_wp2;go_ret;exact⟨rfl,ah.o⟩
            cases K
            ·clear aE;obtain rfl:R=false:=by rw[l.o];cases bu<;>cases fin<;>rfl
             go_wp2;go_ret;exact⟨rfl,ah.o⟩
            cases bu
            ·obtain rfl:R=false:=by rw[l.o];cases fin<;>rfl
             go_wp2;go_ret;exact⟨rfl,ah.o⟩
            ·obtain rfl:R = !fin:=by rw[l.o];cases fin<;>rfl
             go_wp2;go_ret;exact⟨rfl,ah.o⟩
theorem ZhP {A:Nat->Prop}(c:Cls)(v:Value)(w:World)(J:ClsR A w c v)(g:c.Fit) :
  Calls prog 31 #[v] w fun e w'=>e=.returned (.int .i64 (c.e:Nat))/\Below w.heap.size w w':=by
 have l:=J;obtain⟨P,Q,O,rfl,L,H,I⟩:=J;obtain⟨lo,n,rfl⟩:=L.shape;obtain⟨i,fc,rfl⟩:=H.shape;obtain⟨k,j,rfl⟩:=I.shape;have h:Below w.heap.size w (w.alloc (.cells #[.string (S c.name),.string (S c.sup),.slice lo c.like.length n,.bool c.itf,.bool c.abs,.bool c.fin,.slice i c.flds.length fc,.slice k c.mths.length j] 70)):=(Yab _ w).alloc (Yad _) _;have x:=Hd h;have a:=Hd (Box.new w #[.string (S c.name),.string (S c.sup),.slice lo c.like.length n,.bool c.itf,.bool c.abs,.bool c.fin,.slice i c.flds.length fc,.slice k c.mths.length j] 70);have r:=Hd (Zki (A:=A) c _ _ (ClsR.st.keep l (Yae (S:=fun _=>False) h) (fun _ _=>id)) g);have s:Hid (∀W,Below (w.alloc (.cells #[.string (S c.name),.string (S c.sup),.slice lo c.like.length n,.bool c.itf,.bool c.abs,.bool c.fin,.slice i c.flds.length fc,.slice k c.mths.length j] 70)).heap.size (w.alloc (.cells #[.string (S c.name),.string (S c.sup),.slice lo c.like.length n,.bool c.itf,.bool c.abs,.bool c.fin,.slice i c.flds.length fc,.slice k c.mths.length j] 70)) W->Calls prog 94 #[.agg #[.string (S c.name),.string (S c.sup),.slice lo c.like.length n,.bool c.itf,.bool c.abs,.bool c.fin,.slice i c.flds.length fc,.slice k c.mths.length j]] W (Said c.fine W)):=Hd (fun W M=>
  ZhW (A:=A) c _ W (ClsR.st.keep (ClsR.st.keep l (Yae (S:=fun _=>False) h) (fun _ _=>id)) (Yae (S:=fun _=>False) M) (fun _ _=>id)) g)
 have q:c.e=if c.many then 51 else if c.fine then 0 else 50:=rfl
 clear l L H I g h;generalize c.many=m at r q;generalize c.fine=f at s q;rw[q];clear q;have z:=a.o.cell 0 rfl;have E:=a.o.cell 1 rfl;have C:=a.o.cell 2 rfl;have F:=a.o.cell 3 rfl;have G:=a.o.cell 4 rfl;have y:=a.o.cell 5 rfl;have D:=a.o.cell 6 rfl;have B:=a.o.cell 7 rfl;go_enter func31,ntmps31
 go_wp2_with fail;refine r.o.mono ?_;rintro e N⟨rfl,d⟩;clear z E C F G y D B;have p:=Hd (x.o.trans (d.mono x.o.size));cases m
 case true=>
  clear d;go_wp2;go_ret;exact⟨rfl,p.o⟩
 have b:=a.o.below d;have z:=b.cell 0 rfl;have E:=b.cell 1 rfl;have C:=b.cell 2 rfl;have F:=b.cell 3 rfl;have G:=b.cell 4 rfl;have y:=b.cell 5 rfl;have D:=b.cell 6 rfl;have B:=b.cell 7 rfl;have K:=Hd (s.o N d);clear b d;go_wp2_with fail;refine K.o.mono ?_;rintro e w2⟨rfl,u⟩;have t:=Hd (p.o.trans (u.mono p.o.size));clear u z E C F G y D B;cases f
 ·go_wp2;go_ret;exact⟨rfl,t.o⟩
 ·go_wp2;go_ret;exact⟨rfl,t.o⟩
attribute [local go_sem ↓] Go.wp_at_zero Go.wp_at_succ
def ZbD (x a:List UInt8):Bool:=x==a
def samB {α:Type}(p:α->α->Bool)(a b:List α):Bool:=decide (a.length=b.length)&&(a.zip b).all fun c=>p c.1 c.2
def Zgl {α:Type}(p:α->α->Bool)(a b:List α)(k:Nat):Bool:=((a.zip b).take k).all fun c=>p c.1 c.2
theorem Zg2 {α:Type}(p:α->α->Bool)(a b:List α)(k:Nat)(x c:α)(f:a[k]?=some x)(d:b[k]?=some c):Zgl p a b (k+1)=(Zgl p a b k&&p x c):=by
 unfold Zgl;rw[ZcD _ _ _ (x,c) (by rw[List.getElem?_zip_eq_some];exact⟨f,d⟩)]
theorem Zk8 {α:Type}(p:α->α->Bool)(a b:List α)(k:Nat)(d:Zgl p a b k=false):((a.zip b).all fun c=>p c.1 c.2)=false:=by
 unfold Zgl at d;rw[Yb4]at d⊢;obtain⟨c,f,g⟩:=d;exact⟨c,Ybg f,g⟩
