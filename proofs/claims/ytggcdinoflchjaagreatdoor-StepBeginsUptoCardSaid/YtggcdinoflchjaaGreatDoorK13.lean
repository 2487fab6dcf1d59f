/- laws -/
import Derived.Test.YtggcdinoflchjaaGreatDoorK12
import Derived.Deep.DrawnRows
import Derived.StringKeys
set_option maxRecDepth 100000
set_option maxHeartbeats 16000000
namespace Go.Proofs.YtggcdinoflchjaaGreatDoor
open Go.RowKit
theorem Zac {w V W:World} (a:Below w.heap.size w V) (b:Below V.heap.size V W):Below w.heap.size w W:=a.trans (b.mono a.size)
theorem Zaa {w V:World} (a:Below w.heap.size w V) (o:Obj):Below w.heap.size w (V.alloc o):=a.alloc a.size o
theorem Zab {w V:World} (a:Below w.heap.size w V):Below w.heap.size w V.drew:=⟨a.os,a.tape,a.output,a.size,a.block⟩
theorem Src.elem {α:Type} {n:Nat} {R:Zao α} {A:Nat->Prop} {w:World} {d:Option Addr} {m p:Nat} {l:List α} (i:Src n R A w (.slice d m p) l) :
  ∀ (k:Nat) (x:α),l[k]? = some x->∃ b o v,d=some ⟨b,o,none⟩/\R A w x v/\v.cells.size=n/\∀ (s:Nat) u,v.cells[s]? = some u->w.cell? ⟨b,o+k * n+s,none⟩=some u:=by
 intro k x g;rcases i with ⟨t,q,a,rfl⟩|⟨b,o,r,a,_,h⟩
 ·simp at g
 ·simp at a
  obtain ⟨v,j,c,f⟩:=h k x g;exact ⟨b,o,v,a.1,j,c,f⟩
theorem ZeL {α:Type} {p:α->Bool} {l:List α} {k:Nat} (c:(l.take k).any p=true):l.any p=true:=by
 rw [YaQ] at c ⊢;obtain ⟨x,a,b⟩:=c;exact ⟨x,Ybh a,b⟩
theorem ZiT {A:Nat->Prop} (c:Cls) (v:Value) (w:World) (P:ClsR A w c v) (r:c.Fit) :
  Calls Tryz.prog 117 #[v] w (Said c.many w):=by
 obtain ⟨ax,aD,aI,rfl,af,ai,aa⟩:=P;obtain ⟨lo,Z,rfl⟩:=af.shape;obtain ⟨ab,fc,rfl⟩:=ai.shape;obtain ⟨ad,X,rfl⟩:=aa.shape;have y:Below w.heap.size w (w.alloc (.cells #[.string (S c.name),.string (S c.sup),.slice lo c.like.length Z,.bool c.itf,.bool c.abs,.bool c.fin,.slice ab c.flds.length fc,.slice ad c.mths.length X] 87)):=(Yab _ w).alloc (Yac _) _;have h:=Hd y;have u:=Hd (Box.new w #[.string (S c.name),.string (S c.sup),.slice lo c.like.length Z,.bool c.itf,.bool c.abs,.bool c.fin,.slice ab c.flds.length fc,.slice ad c.mths.length X] 87);have ac:=Hd (Src.elem (MthR.st.below aa y));obtain ⟨n,H⟩:∃ n,n=c.mths.length:=⟨_,rfl⟩
 have ag:=Hd H;have ar:n<=9223372036854775807:=by rw [H];exact r.n3
 have aq:=r.n1;have ao:=r.n2;have T:c.many=(decide (32<c.like.length) || (decide (32<c.flds.length) || (decide (32<n) || c.mths.any Mth.many))):=by rw [H];rfl
 have i:=Hd T;rw [←H] at y h u ac ⊢;obtain ⟨R,t⟩:∃ R,R=c.many:=⟨_,rfl⟩
 rw [←t] at i ⊢;have ay:Hid (∀ x ∈ c.mths,x.Fit):=Hd r.mths;clear af ai aa y H T t r;go_enter Tryz.func117,Tryz.ntmps117;go_wp2;generalize w.alloc (.cells #[.string (S c.name),.string (S c.sup),.slice lo c.like.length Z,.bool c.itf,.bool c.abs,.bool c.fin,.slice ab c.flds.length fc,.slice ad n X] 87)=aj at h u ac ⊢;obtain ⟨B,ae⟩:∃ B,B=w.heap.size:=⟨_,rfl⟩
 rw [←ae] at u ⊢;clear ae
 go_loopw [3] (fun Y wr=>∃ k:Nat,k<=n/\Y=.int .i64 k/\(c.mths.take k).any Mth.many=false/\Below aj.heap.size aj wr) (fun Y _=>n - (intOf Y).toNat)
 case atStart=>exact ⟨0,Yai _,rfl,by simp,Yab _ _⟩
 case round=>
  obtain ⟨k,aC,rfl,G,E⟩:=hrel;have al:=Hd G;have m:=Hd E;have aw:=(u.o.below E).cell 7 rfl;clear G E;by_cases au:k<n
  ·have U:k<c.mths.length:=by have:=ag.o;omega
   obtain ⟨x,Q⟩:∃ x,c.mths[k]? = some x:=⟨_,Yaa U⟩
   have p:=Yad (S:=fun _=>False) m.o;obtain ⟨b,o,v,rfl,P,ak,q⟩:=ac.o k x Q;have aM:=Hd (MthR.st.keep P p (fun _ _=>id));obtain ⟨_,_,_,rfl,⟨M,C,rfl⟩,⟨F,N,rfl⟩,⟨z,D,rfl⟩⟩:=Zam P;have aG:wr.cell? ⟨b,o+k * 7,none⟩=some (.string (S x.name)):=p.cell (a:=⟨b,o+k * 7,none⟩) (q 0 _ rfl) id;have aE:wr.cell? ⟨b,o+k * 7+1,none⟩=some (.slice M x.params.length C):=p.cell (a:=⟨b,o+k * 7+1,none⟩) (q 1 _ rfl) id;have aF:wr.cell? ⟨b,o+k * 7+2,none⟩=some (.string (S x.res)):=p.cell (a:=⟨b,o+k * 7+2,none⟩) (q 2 _ rfl) id;have az:wr.cell? ⟨b,o+k * 7+3,none⟩=some (.bool x.abs):=p.cell (a:=⟨b,o+k * 7+3,none⟩) (q 3 _ rfl) id;have aK:wr.cell? ⟨b,o+k * 7+4,none⟩=some (.int .i64 x.loc):=p.cell (a:=⟨b,o+k * 7+4,none⟩) (q 4 _ rfl) id;have aL:wr.cell? ⟨b,o+k * 7+5,none⟩=some (.slice F x.code.length N):=p.cell (a:=⟨b,o+k * 7+5,none⟩) (q 5 _ rfl) id;have aB:wr.cell? ⟨b,o+k * 7+6,none⟩=some (.slice z x.cats.length D):=p.cell (a:=⟨b,o+k * 7+6,none⟩) (q 6 _ rfl) id;clear q ak;have aA:=Hd Q;have J:=Zah Mth.many c.mths k x Q;rw [al.o,YaS] at J;have j:=Hd J;clear Q U p J;have av:(0:Int)<=k:=by omega
   have ap:(k:Int)<(n:Int):=by omega
   by_cases f:32<x.params.length
   ·have I:32<(x.params.length:Int):=by omega
    have d:x.many=true:=by unfold Mth.many;simp [f]
    rw [d] at j;have t:R=true:=by rw [i.o,ZeL j.o];simp
    subst t;have g:=Hd (h.o.trans ((Zaa m.o _).mono h.o.size):Below w.heap.size w (wr.alloc (.cells #[.string (S x.name),.slice M x.params.length C,.string (S x.res),.bool x.abs,.int .i64 x.loc,.slice F x.code.length N,.slice z x.cats.length D] 44)));clear d f;go_wp2;go_ret;exact ⟨Zan (rfl),g.o⟩
   ·have I:¬ (32<(x.params.length:Int)):=by omega
    by_cases l:32<x.cats.length
    ·have L:32<(x.cats.length:Int):=by omega
     have d:x.many=true:=by unfold Mth.many;simp [f,l]
     rw [d] at j;have t:R=true:=by rw [i.o,ZeL j.o];simp
     subst t;have g:=Hd (h.o.trans ((Zaa m.o _).mono h.o.size):Below w.heap.size w (wr.alloc (.cells #[.string (S x.name),.slice M x.params.length C,.string (S x.res),.bool x.abs,.int .i64 x.loc,.slice F x.code.length N,.slice z x.cats.length D] 44)));clear d f l;go_wp2;go_ret;exact ⟨Zan (rfl),g.o⟩
    ·have L:¬ (32<(x.cats.length:Int)):=by omega
     by_cases s:200<x.code.length
     ·have K:200<(x.code.length:Int):=by omega
      have d:x.many=true:=by unfold Mth.many;simp [f,l,s]
      rw [d] at j;have t:R=true:=by rw [i.o,ZeL j.o];simp
      subst t;have g:=Hd (h.o.trans ((Zaa m.o _).mono h.o.size):Below w.heap.size w (wr.alloc (.cells #[.string (S x.name),.slice M x.params.length C,.string (S x.res),.bool x.abs,.int .i64 x.loc,.slice F x.code.length N,.slice z x.cats.length D] 44)));clear d f l s;go_wp2;go_ret;exact ⟨Zan (rfl),g.o⟩
     ·have K:¬ (200<(x.code.length:Int)):=by omega
      by_cases O:64<x.loc
      ·have ah:64<x.loc:=by omega
       have d:x.many=true:=by unfold Mth.many;simp [f,l,s,O]
       rw [d] at j;have t:R=true:=by rw [i.o,ZeL j.o];simp
       subst t;have g:=Hd (h.o.trans ((Zaa m.o _).mono h.o.size):Below w.heap.size w (wr.alloc (.cells #[.string (S x.name),.slice M x.params.length C,.string (S x.res),.bool x.abs,.int .i64 x.loc,.slice F x.code.length N,.slice z x.cats.length D] 44)));clear d f l s O;go_wp2;go_ret;exact ⟨Zan (rfl),g.o⟩
      ·have ah:¬ (64<x.loc):=by omega
       have d:x.many=false:=by unfold Mth.many;simp [f,l,s,O]
       rw [d] at j;clear d f l s O;go_wp2
       go_roundw
       case rel=>exact ⟨k+1,by omega,by go_num,j.o,Zaa m.o _⟩
       case measure=>simp [intOf];omega
  ·obtain rfl:k=n:=by omega
   have W:c.mths.any Mth.many=false:=by
    have am:=al.o;rw [ag.o,Yaw (Yac _)] at am;exact am
   rw [W,Bool.or_false] at i;have V:Below w.heap.size w wr:=h.o.trans (m.o.mono h.o.size);have g:=Hd V;have aH:=(u.o.below m.o).cell 2 rfl;have aJ:=(u.o.below m.o).cell 6 rfl;clear W V;by_cases f:32<c.like.length
   ·have I:32<(c.like.length:Int):=by omega
    obtain rfl:R=true:=by rw [i.o];simp [f]
    clear f;go_wp2;go_ret;exact ⟨Zan (rfl),g.o⟩
   ·have I:¬ (32<(c.like.length:Int)):=by omega
    by_cases l:32<c.flds.length
    ·have L:32<(c.flds.length:Int):=by omega
     obtain rfl:R=true:=by rw [i.o];simp [f,l]
     clear f l;go_wp2;go_ret;exact ⟨Zan (rfl),g.o⟩
    ·have L:¬ (32<(c.flds.length:Int)):=by omega
     by_cases s:32<k
     ·have K:32<(k:Int):=by omega
      obtain rfl:R=true:=by rw [i.o];simp [f,l,s]
      clear f l s;go_wp2;go_ret;exact ⟨Zan (rfl),g.o⟩
     ·have K:¬ (32<(k:Int)):=by omega
      obtain rfl:R=false:=by rw [i.o];simp [f,l,s]
      clear f l s;go_wp2;go_ret;exact ⟨Zan (rfl),g.o⟩
abbrev entV (B:Nat->Nat) (i:Nat):Value:=.pointer (some ⟨B i,0,none⟩)
abbrev EntP (B:Nat->Nat):Zao Nat:=Flat (entV B)
theorem EntP.st (B:Nat->Nat):Stays (EntP B):=Flat.stays _
def YesNo (a c:World->Prop) (e:Ending) (w':World):Prop:=∃ b,e=.returned (.bool b)/\(b=true->a w')/\(b=false->c w')
theorem YesNo.mono {k l c a:World->Prop} {e:Ending} {w':World} (m:YesNo k l e w') (f:∀ w,k w->c w) (j:∀ w,l w->a w):YesNo c a e w':=by
 obtain ⟨b,h,i,g⟩:=m;exact ⟨b,h,fun d=>f _ (i d),fun d=>j _ (g d)⟩
theorem YesNo.mono' {k l c a:World->Prop} {e:Ending} {w':World} (m:YesNo k l e w') (f:k w'->c w') (j:l w'->a w'):YesNo c a e w':=by
 obtain ⟨b,h,i,g⟩:=m;exact ⟨b,h,fun d=>f (i d),fun d=>j (g d)⟩
def Zic (B:Nat->Nat) (c:Nat) (a:Array Value) (l:List Nat) (b d:Nat->World->Prop):Prop:=
 ∀ (k x:Nat) (w:World),l[k]? = some x->b k w->Calls Tryz.prog c (#[entV B x]++a) w (YesNo (d k) (b (k+1)))
def Zpl (n:Nat) (a b:Nat->World->Prop) (e:Ending) (w':World):Prop:=∃ z:Int,e=.returned (.int .i64 z)/\((0<=z/\∃ k,k<n/\z=(k:Int)/\b k w')\/(z<0/\a n w'))
theorem Zke {B:Nat->Nat} {A:Nat->Prop} (I:Nat) (a:Array Value) (l:List Nat) (u:Option Addr) (C:Nat) (y T:Nat->World->Prop) (w:World) (d:∀ args w,(callFunc I args).run Tryz.prog w=.ok (.enter I args) w)
  (g:∀ k w',y k w'->Src 1 (EntP B) A w' (.slice u l.length C) l) (D:y 0 w) (H:Zic B I a l y T) (p:l.length<=9223372036854775807) :
  Calls Tryz.prog 223 #[.slice u l.length C,.func (.func I) #[] a] w (Zpl l.length y T):=by
 have J:=Hd H;have L:=Hd d;have E:=Hd g;have M:=Hd D;obtain ⟨n,f⟩:∃ n,n=l.length:=⟨_,rfl⟩
 rw [←f] at p ⊢;simp only [←f] at E;have P:=Hd f;clear H d g D f;go_enter Tryz.func223,Tryz.ntmps223;go_wp2
 go_loopw [8] (fun m wr=>∃ k:Nat,k<=n/\m=.int .i64 k/\y k wr) (fun m _=>n - (intOf m).toNat)
 case atStart=>exact ⟨0,Yai _,rfl,M.o⟩
 case round=>
  obtain ⟨k,X,rfl,G⟩:=hrel;have r:=Hd G;clear G;by_cases F:k<n
  ·have h:k<l.length:=by have:=P.o;omega
   obtain ⟨x,t⟩:∃ x,l[k]? = some x:=⟨_,Yaa h⟩
   obtain ⟨b,o,v,rfl,Q,_,i⟩:=Src.elem (E.o k wr r.o) k x t;obtain rfl:=Q;have N:wr.cell? ⟨b,o+k,none⟩=some (entV B x):=by have U:=i 0 _ rfl;rw [YaG] at U;exact U
   clear i;have K:=Hd t;clear t h;have V:(0:Int)<=k:=by omega
   have R:(k:Int)<(n:Int):=by omega
   have d:=L.o
   go_wp2_with fail
   refine (J.o k x wr K.o r.o).mono ?_;rintro e W ⟨O,rfl,z,j⟩;have s:=Hd z;have c:=Hd j;clear d N z j;cases O with
   | true=>
    have q:=Hd (s.o rfl);clear s c;go_wp2;go_ret;exact ⟨k,rfl,Or.inl ⟨by omega,k,F,rfl,q.o⟩⟩
   | false=>
    have q:=Hd (c.o rfl);clear s c;go_wp2
    go_roundw
    case rel=>exact ⟨k+1,by omega,by go_num,q.o⟩
    case measure=>simp [intOf];omega
  ·obtain rfl:n=k:=by omega
   go_wp2;go_ret;exact ⟨-1,rfl,Or.inr ⟨by decide,r.o⟩⟩
theorem ZeW {B:Nat->Nat} {A:Nat->Prop} (m:Nat) (a:Array Value) (l:List Nat) (sv:Value) (i t:Nat->World->Prop) (w:World) (p:∀ args w,(callFunc m args).run Tryz.prog w=.ok (.enter m args) w)
  (c:∀ k w',i k w'->Src 1 (EntP B) A w' sv l) (d:i 0 w) (s:Zic B m a l i t) (b:l.length<=9223372036854775807) :
  Calls Tryz.prog 170 #[sv,.func (.func m) #[] a] w (YesNo (fun w'=>∃ k,k<l.length/\t k w') (i l.length)):=by
 obtain ⟨u,y,rfl⟩:=(c 0 w d).shape;have q:=Hd (Zke m a l u y i t w p c d s b);generalize l.length=n at q ⊢;clear p c d s b;go_enter Tryz.func170,Tryz.ntmps170
 go_wp2_with fail
 refine q.o.mono ?_;rintro e j ⟨z,rfl,r⟩;have f:=Hd r;rcases r with ⟨C,_⟩|⟨C,_⟩
 ·have h:Hid (∃ k,k<n/\t k j):=Hd (by
   rcases f.o with ⟨_,k,v,_,g⟩|⟨x,_⟩
   ·exact ⟨k,v,g⟩
   ·omega)
  clear f;go_wp2;go_ret;exact ⟨true,rfl,fun _=>h.o,(fun g=>by cases g)⟩
 ·have h:Hid (i n j):=Hd (by
   rcases f.o with ⟨x,_⟩|⟨_,g⟩
   ·omega
   ·exact g)
  have d:decide (0<=z)=false:=by rw [decide_eq_false_iff_not];omega
  clear f;go_wp2;go_ret;exact ⟨false,rfl,(fun g=>by cases g),fun _=>h.o⟩
structure Ent where
 cls:Cls
 up:Option Nat
 lk:List Nat
def ptrV (B:Nat->Nat) (o:Option Nat):Value:=.pointer (o.map fun a=>⟨B a,0,none⟩)
theorem ZdI (B:Nat->Nat) (o:Option Nat):∃ a,ptrV B o=.pointer a:=⟨_,rfl⟩
theorem ZbW (B:Nat->Nat) (a:Nat):ptrV B (some a)=.pointer (some ⟨B a,0,none⟩):=rfl
theorem Zeh (B:Nat->Nat):ptrV B none=.pointer none:=rfl
def Zad (es:List Ent) (n:List UInt8):Option Nat:=es.findIdx? (fun e=>e.cls.name == n)
def ZeJ (es:List Ent):Lit->Option Nat
 | .string n=>Zad es n
 | _=>none
def entC (B:Nat->Nat) (i:Nat) (e:Ent) (c b a sv:Value):Array Value:=
 #[.int .i64 i,.string (S e.cls.name),.string (S e.cls.sup),c,.bool e.cls.itf,.bool e.cls.abs,.bool e.cls.fin,b,a,ptrV B e.up,sv]
def EntIs (A:Nat->Prop) (B:Nat->Nat) (w:World) (i:Nat) (e:Ent):Prop:=
 ∃ c b a sv,Box w (B i) (entC B i e c b a sv) 97/\Src 1 StrR A w c e.cls.like/\Src 3 FldR A w b e.cls.flds/\Src 7 MthR A w a e.cls.mths/\Src 1 (EntP B) A w sv e.lk
theorem EntIs.keep {A S:Nat->Prop} {B:Nat->Nat} {w w':World} {i:Nat} {e:Ent} (p:EntIs A B w i e) (a:Only S w w') (b:∀ k,A k->¬ S k) (c:¬ S (B i)):EntIs A B w' i e:=by
 obtain ⟨d,m,h,sv,f,n,j,l,g⟩:=p;exact ⟨d,m,h,sv,f.keep a c,StrR.st.src n a b,FldR.st.src j a b,MthR.st.src l a b,(EntP.st B).src g a b⟩
structure Tab (A:Nat->Prop) (w:World) (T mb:Nat) (B:Nat->Nat) (es:List Ent):Prop where
 box:Box w T #[.map (some mb)] 81
 map:MapF Tryz.prog 9 (.pointer none) w mb es.length (fun k=>ptrV B (ZeJ es k)) (fun k=>(ZeJ es k).isSome)
 ent:∀ i e,es[i]? = some e->EntIs A B w i e
 inj:∀ i j,i<es.length->j<es.length->B i=B j->i=j
 offA:∀ i,i<es.length->¬ A (B i)
 offT:∀ i,i<es.length->B i ≠ T
 offM:∀ i,i<es.length->B i ≠ mb
 T_A:¬ A T
 M_A:¬ A mb
 T_M:T ≠ mb
theorem Tab.keep {A S:Nat->Prop} {w w':World} {h d:Nat} {B:Nat->Nat} {es:List Ent} (b:Tab A w h d B es) (g:Only S w w') (f:∀ k,k<w.heap.size->¬ S k):Tab A w' h d B es:=by
 have a:Only (fun _=>False) w w':=g.mono (fun i c s=>f i c s);exact ⟨b.box.keep a id,b.map.keep a id,fun i e c=>(b.ent i e c).keep a (fun _ _=>id) id,b.inj,b.offA,b.offT,b.offM,b.T_A,b.M_A,b.T_M⟩
theorem Tab.below {A:Nat->Prop} {w w':World} {c a:Nat} {B:Nat->Nat} {es:List Ent} (d:Tab A w c a B es) (b:Below w.heap.size w w'):Tab A w' c a B es:=
 d.keep (Yad (S:=fun _=>False) b) (fun _ _=>id)
theorem Tab.lt {A:Nat->Prop} {w:World} {f c:Nat} {B:Nat->Nat} {es:List Ent} (d:Tab A w f c B es) {i:Nat} (a:i<es.length):B i<w.heap.size:=by
 obtain ⟨_,_,_,_,b,_⟩:=d.ent i es[i] (Yaa a);exact b.lt
theorem ZcE (n:List UInt8) (a:n.length<=9223372036854775807):keyOf Tryz.prog 9 (.string (S n))=some (.string n):=by
 have b:=Go.WideMaps.keyOf_string_mk (P:=Tryz.prog) (k:=9) (s:=S n) Tryz.underlying9 (by rw [Zay];unfold maxLen;exact a);rw [b];exact Ya5 (fun x=>some (Lit.string x)) rfl
theorem Za3:Maps.Keyed Tryz.prog 9:=Maps.string_keyed Tryz.underlying9
theorem ZjG (w:World):(zeroValue 94).run Tryz.prog w=.ok (.pointer none) w:=by kernel_rfl
theorem Tab.look {A:Nat->Prop} {w:World} {c a:Nat} {B:Nat->Nat} {es:List Ent} (d:Tab A w c a B es) (n:List UInt8) (b:n.length<=9223372036854775807) :
  (Instr.lookup 79 (.map (some a)) (.string (S n)) false).run Tryz.prog w=.ok (ptrV B (Zad es n)) w:=
 d.map.look Za3 Tryz.underlying79 (ZjG w) (ZcE n b)
def Zdw (es:List Ent):List Nat->Option Nat->Prop
 | [],o=>o=none
 | i :: l,o=>o=some i/\∃ e,es[i]? = some e/\Zdw es l e.up
theorem Zhb {α:Type} {l d:List α} {k:Nat} {x:α} (c:l.drop k=x :: d):l[k]? = some x/\l.drop (k+1)=d/\k<l.length:=by
 have b:k<l.length:=by
  rcases YaB k l.length with a|a
  ·exact a
  ·rw [List.drop_eq_nil_of_le a] at c;cases c
 rw [YbK b] at c
 injection c with h1 h2
 exact ⟨by rw [Yaa b,h1],h2,b⟩
theorem ZeM {A:Nat->Prop} {B:Nat->Nat} {ai ab:Nat} {es:List Ent} {t:World} (K:Tab A t ai ab B es) (N:Nat) (f:Array Value) (L:List Nat) (o:Option Nat) (D ac:Nat->World->Prop) (w:World) (j:∀ args w,(callFunc N args).run Tryz.prog w=.ok (.enter N args) w)
  (a:Zdw es L o) (x:∀ k w',D k w'->Below t.heap.size t w') (F:D 0 w) (H:Zic B N f L D ac) :
  Calls Tryz.prog 125 #[ptrV B o,.func (.func N) #[] f] w (YesNo (fun w'=>∃ k,k<L.length/\ac k w') (D L.length)):=by
 have P:=Hd H;have R:=Hd j;have T:=Hd K;have Y:=Hd x;have U:=Hd F;have Z:=Hd a;clear H j K x F a;generalize p:ptrV B o=al;have aa:=Hd p;clear p;go_enter Tryz.func125,Tryz.ntmps125;go_wp2
 go_loopg [0] (L.length+1) (fun W V wr=>∃ (k:Nat) (o:Option Nat),V=ptrV B o/\Zdw es (L.drop k) o/\D k wr/\k<=L.length/\L.length - k<W)
 case atStart=>exact ⟨0,o,aa.o.symm,Z.o,U.o,Yai _,by omega⟩
 case round=>
  obtain ⟨k,o,m,a,I,ag,aj⟩:=hrel;have q:=Hd I;clear I;cases d:L.drop k with
  | nil=>
   rw [d] at a;have u:o=none:=a;subst u;have h:u0=.pointer none:=m;clear m a;subst h;have c:L.length=k:=by
    have:=Ya5 List.length d;simp at this
    omega
   have J:=Hd c;clear d c;go_wp2;go_ret;exact ⟨false,rfl,(fun O=>by cases O),fun _=>by rw [J.o];exact q.o⟩
  | cons i ao=>
   rw [d] at a;obtain ⟨u,e,n,s⟩:=a;obtain ⟨M,y,c⟩:=Zhb d;subst u;have h:u0=.pointer (some ⟨B i,0,none⟩):=m;subst h;have Q:=Hd M;have X:=Hd y;have C:=Hd n;have G:=Hd s;clear m M y n s d;have j:=R.o
   go_wp2_with fail
   refine (P.o k i wr Q.o q.o).mono ?_;rintro am af ⟨b,rfl,E,r⟩;have v:=Hd E;have g:=Hd r;clear j E r;cases b with
   | true=>
    have l:=Hd (v.o rfl);clear v g;go_wp2;go_ret;exact ⟨true,rfl,fun _=>⟨k,c,l.o⟩,(fun O=>by cases O)⟩
   | false=>
    have l:=Hd (g.o rfl);clear v g;obtain ⟨ae,ah,ak,sv,z,_⟩:=(T.o.below (Y.o _ _ l.o)).ent i e C.o;have ad:=z.cell 9 rfl;clear z;go_wp2
    go_roundg (L.length - k)
    case measure=>omega
    case rel=>exact ⟨k+1,e.up,rfl,by rw [X.o];exact G.o,l.o,c,by omega⟩
