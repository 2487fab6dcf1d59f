/- laws -/
import Derived.Test.YtegljjbclladdaaGreatDoorK39
set_option maxRecDepth 100000
set_option maxHeartbeats 16000000
namespace Go.Proofs.YtegljjbclladdaaGreatDoor
open Go.RowKit Proofs.Tryz
section
variable {β:Type}
def ZbY (es:List Ent)(g:Nat->Option β):Nat->List Nat->Option β
 |0,_=>none
 |f+1,l=>l.findSome? (fun d=>(g d).or (ZbY es g f (lkOf es d)))
def Zh6 (es:List Ent)(g:Nat->Option β)(d:Nat):Prop:=∀x,Lup es d x->g x=none
theorem ZjL {es:List Ent}{f d:Nat}{l:List Nat}(g:Deep es (f+1) l)(a:d∈l):Deep es f (lkOf es d):=by
 obtain⟨e,b,c⟩:=g d a;rw[Zbm b];exact c
theorem Zdo {es:List Ent}(g:Nat->Option β):∀(f:Nat) (l:List Nat),Deep es f l->(ZbY es g f l=none↔∀k∈l,Zh6 es g k)
 |0,l,b=>by
  have:l=[]:=b;subst this;exact⟨fun _ k a=>(by cases a),fun _=>rfl⟩
 |f+1,l,b=>by
  unfold ZbY;rw[List.findSome?_eq_none_iff];constructor
  ·intro j k a x m;have c:=j k a;rw[Ycd]at c;cases m with
   |refl=>exact c.1
   |step i h=>exact(Zdo g f _ (ZjL b a)).1 c.2 _ i x h
  ·intro j k a;rw[Ycd];exact⟨j k a k (.refl _),(Zdo g f _ (ZjL b a)).2 (fun d i x h=>j k a x (.step i h))⟩
theorem ZdU {g:Nat->Option β}{a b:List Nat}{f:β}(h:a <+: b)(d:a.findSome? g=some f):b.findSome? g=some f:=by
 obtain⟨c,rfl⟩:=h;rw[Ybd,d];rfl
theorem Zjq {es:List Ent}(I:Acyc es)(g:Nat->Option β):∀(f:Nat) (M l:List Nat),Deep es f l->(∀d∈M,Zh6 es g d\/∀k∈l,¬Lup es k d)->(vis es f M l).findSome? g=ZbY es g f l
 |0,M,l,_,_=>rfl
 |f+1,M,l,v,s=>by
  rw[Zjs];have F:∀(l b:List Nat),Deep es (f+1) l->(∀d∈M,Zh6 es g d\/∀k∈l,¬Lup es k d)->b.findSome? g=none->(∀d∈b,Zh6 es g d)->
    (l.foldl (ZbC es f M) b).findSome? g=l.findSome? (fun d=>(g d).or (ZbY es g f (lkOf es d))):=by
   intro l;induction l with
   |nil=>intro b _ _ h _;exact h
   |cons d l H=>
    intro b v s p m;have y:Deep es (f+1) l:=fun x c=>v x (Yau _ c);have z:∀x∈M,Zh6 es g x\/∀k∈l,¬Lup es k x:=fun x c=>(s x c).imp id (fun h k i=>h k (Yau _ i));have n:=ZjL v (Yam (a:=d) (l:=l));rw[YaM,YbG];have u:Zh6 es g d->(g d).or (ZbY es g f (lkOf es d))=none:=fun h=>by
     rw[Ycd];exact⟨h d (.refl _),(Zdo g f _ n).2 (fun k C x D=>h x (.step C D))⟩
    by_cases w:(M++b).contains d=true
    ·have E:ZbC es f M b d=b:=by unfold ZbC;rw[Yay w]
     have G:Zh6 es g d:=by
      rw[YbS,Yaq]at w;rcases w with h|h
      ·rcases s d h with B|B
       ·exact B
       ·exact absurd (.refl _) (B d Yam)
      ·exact m d h
     rw[E,u G];exact H b y z p m
    ·have E:ZbC es f M b d=b++d::vis es f (M++b++[d]) (lkOf es d):=by unfold ZbC;rw[Yar w]
     have J:(vis es f (M++b++[d]) (lkOf es d)).findSome? g=ZbY es g f (lkOf es d):=by
      refine Zjq I g f _ _ n (fun x c=>?_);rw[Yaq,Yaq]at c;rcases c with(c|c)|c
      ·exact(s x c).imp id (fun h k i t=>h d Yam (.step i t))
      ·exact .inl (m x c)
      ·rw[Yax.1 c];refine .inr (fun k i t=>I d ⟨k,?_,ZrO t⟩);unfold lkOf at i;split at i
       ·rename_i e K;exact ZcG K i
       ·cases i
     have j:(b++d::vis es f (M++b++[d]) (lkOf es d)).findSome? g=(g d).or (ZbY es g f (lkOf es d)):=by
      rw[Ybd,p,YbA,YbG,J];cases g d<;>rfl
     rw[E];cases r:(g d).or (ZbY es g f (lkOf es d))with
     |some N=>
      rw[r]at j;exact ZdU (ZeH es f M l _) j
     |none=>
      rw[r]at j;refine H _ y z j (fun x c=>?_);rw[Ycd]at r;have q:=(Zdo g f _ n).1 r.2;rcases Yaq.1 c with h|h
      ·exact m x h
      ·rcases Yai.1 h with h|h
       ·rw[h];intro L A;cases A with
        |refl=>exact r.1
        |step C D=>exact q _ C L D
       ·obtain⟨k,i,t⟩:=Zd4 es f _ _ x h;exact fun L A=>q k i L (t.trans A)
  exact F l [] v s rfl (fun d h=>(by cases h))
theorem ZiI {es:List Ent}(l:Acyc es)(g:Nat->Option β)(f:Nat):∀(L a:List Nat),(∀d∈L,Deep es f (lkOf es d))->a.findSome? g=none->(∀d∈a,Zh6 es g d)->
  (L.foldl (fun a d=>a++vis es f a (lkOf es d)) a).findSome? g=L.findSome? (fun d=>ZbY es g f (lkOf es d))
 |[],a,_,h,_=>h
 |d::L,a,hL,h,hc=>by
  have m:=hL d Yam;have n:=Zjq l g f a (lkOf es d) m (fun x c=>.inl (hc x c));rw[YaM,YbG];have b:(a++vis es f a (lkOf es d)).findSome? g=ZbY es g f (lkOf es d):=by rw[Ybd,h,YbA,n]
  cases j:ZbY es g f (lkOf es d)with
  |some t=>
   rw[j]at b;exact ZdU (ZdW es f L _) b
  |none=>
   rw[j]at b;refine ZiI l g f L _ (fun x c=>hL x (Yau _ c)) b (fun x c=>?_);rcases Yaq.1 c with i|i
   ·exact hc x i
   ·obtain⟨k,q,p⟩:=Zd4 es f _ _ x i;exact fun s r=>(Zdo g f _ m).1 j k q s (p.trans r)
end
def ownG (es:List Ent)(n:List UInt8)(x:Nat):Option (Nat×Mth):=(ownM es x n).map (fun m=>(x,m))
theorem Wise.methR {es:List Ent}(W:Wise es)(o:Option Nat)(c:∀i,o=some i->i<es.length)(n:List UInt8) :
  Zbt es o n=((Zan es o).findSome? (ownG es n)).or ((Zan es o).findSome? (fun d=>ZbY es (ownG es n) es.length (lkOf es d))):=by
 unfold Zbt ZaC Zc4;rw[Ybd];have f:=ZiI W.ac (ownG es n) es.length (Zan es o) [] (fun d b=>by
  obtain⟨e,a⟩:=ZbF (W.sh.line o c) d b;rw[Zbm a];exact W.sh.deep d e a) rfl (fun d f=>(by cases f))
 unfold ifsL;rw[←f];rfl
def putE (es:List Ent):Nat->List Nat->Nat->List Nat
 |0,out,_=>out
 |f+1,out,i=>if i<8\/i∈out then out else(parE es i).foldl (putE es f) out++[i]
def Zcx (es:List Ent):List Nat:=((List.range (es.length-8)).map (8 + ·)).foldl (putE es es.length) []
def Zhe (es:List Ent):Nat->Nat->Prop
 |0,_=>False
 |f+1,i=>∀d∈parE es i,Zhe es f d
theorem ZgN {es:List Ent}(g:Acyc es)(l:Zdi es):∀(f:Nat) (V:List Nat) (i:Nat),(∀v∈V,Over es v i)->V.Nodup->(∀v∈V,v<es.length)->es.length<=V.length+f->i<es.length->Zhe es f i
 |0,V,i,a,k,c,n,h=>by
  have:=Zhv k c (by omega) h;exact absurd (a i this) (g i)
 |f+1,V,i,a,k,c,n,h=>fun d j=>by
  have m:i ∉ V:=fun b=>g i (a i b);refine ZgN g l f (i::V) d (fun v b=>?_) (Ycv.2 ⟨m,k⟩) (fun v b=>?_) (by rw[YaI];omega) (l i d j)
  ·rcases Yai.1 b with e|b
   ·rw[e];exact .one j
   ·exact(a v b).snoc j
  ·rcases Yai.1 b with e|b
   ·rw[e];exact h
   ·exact c v b
theorem Wise.deepU {es:List Ent}(W:Wise es){i:Nat}(a:i<es.length):Zhe es es.length i:=
 ZgN W.ac W.par es.length [] i (fun v b=>(by cases b)) Yb9 (fun v b=>(by cases b)) (by simp) a
structure Vp (n:Nat) (P out:List Nat) (s:List Bool×List Nat):Prop where
 len:s.1.length=n
 vis:∀x,x<n->(s.1.getD x false=true↔x∈s.2\/x∈P)
 ord:s.2=List.range 8++out
 low:∀x∈out,8<=x
theorem Zju {es:List Ent}(y:Acyc es)(u:Zdi es):∀(f:Nat) (P a:List Nat) (s:List Bool×List Nat) (c:Nat),c<es.length->(∀p∈P,¬Up es c p)->Vp es.length P a s->Vp es.length P (putE es f a c) (Zaq es f s c)
 |0,P,a,s,c,_,_,j=>j
 |f+1,P,a,s,c,D,v,j=>by
  have t:c ∉ P:=fun B=>v c B (.refl _);have i:s.1.getD c false=true↔c<8\/c∈a:=by
   rw[j.vis c D,j.ord,Yaq,YbM];constructor
   ·rintro(g|g)
    ·exact g
    ·exact absurd g t
   ·exact .inl
  unfold Zaq putE;by_cases k:s.1.getD c false=true
  ·rw[Yay k,Yay (i.1 k)];exact j
  ·rw[Yar k,Yar (fun b=>k (i.2 b))];have w:8<=c:=by
    rcases YaC c 8 with b|b
    ·exact absurd (i.2 (.inl b)) k
    ·exact b
   have A:Vp es.length (c::P) a (s.1.set c true,s.2):=by
    refine⟨by rw[YbT];exact j.len,fun x h=>?_,j.ord,j.low⟩;show(s.1.set c true).getD x false=true↔_;by_cases e:x=c
    ·subst e;rw[Yap,Ybx (by rw[j.len];exact h)];simp
    ·rw[Yap,Ybw (fun b=>e b.symm),←Yap,j.vis x h,Yai];constructor
     ·rintro(b|b)
      ·exact .inl b
      ·exact .inr (.inr b)
     ·rintro(b|b|b)
      ·exact .inl b
      ·exact absurd b e
      ·exact .inr b
   have r:∀(l:List Nat) (a:List Nat) (s:List Bool×List Nat),(∀d∈l,d∈parE es c)->Vp es.length (c::P) a s->Vp es.length (c::P) (l.foldl (putE es f) a) (l.foldl (Zaq es f) s):=by
    intro l;induction l with
    |nil=>intro a s _ j;exact j
    |cons d l C=>
     intro a s z j;rw[YaM,YaM];have n:=z d Yam;refine C _ _ (fun x h=>z x (Yau _ h)) (Zju y u f (c::P) a s d (u c d n) (fun p m q=>?_) j);rcases Yai.1 m with e|m
     ·rw[e]at q;exact y c ⟨d,n,q⟩
     ·exact v p m (.step n q)
   have g:=r (parE es c) a (s.1.set c true,s.2) (fun _ b=>b) A;refine⟨g.len,fun x h=>?_,by show((parE es c).foldl (Zaq es f) (s.1.set c true,s.2)).2++[c]=_;rw[g.ord,YaY],fun x h=>?_⟩
   ·show((parE es c).foldl (Zaq es f) (s.1.set c true,s.2)).1.getD x false=true↔x∈((parE es c).foldl (Zaq es f) (s.1.set c true,s.2)).2++[c]\/x∈P;rw[g.vis x h,Yaq,Yai,Yax];constructor
    ·rintro(b|b|b)
     ·exact .inl (.inl b)
     ·exact .inl (.inr b)
     ·exact .inr b
    ·rintro((b|b)|b)
     ·exact .inl b
     ·exact .inr (.inl b)
     ·exact .inr (.inr b)
   ·rcases Yaq.1 h with b|b
    ·exact g.low x b
    ·rw[Yax.1 b];exact w
theorem Zhc {es:List Ent}(f:Nat)(s:List Bool×List Nat):∀(l:List Nat),(∀d∈l,s.1.getD d false=true)->l.foldl (Zaq es f) s=s
 |[],_=>rfl
 |d::l,h=>by
  rw[YaM];have:Zaq es f s d=s:=by
   cases f with
   |zero=>rfl
   |succ f=>unfold Zaq;rw[Yay (h d Yam)]
  rw[this];exact Zhc f s l (fun x a=>h x (Yau _ a))
theorem ZkD {es:List Ent}(f:Nat)(t:8<=es.length)(c:∀i,i<8->∀d∈parE es i,d<i):∀k,k<=8->
  let s:=(List.range k).foldl (Zaq es (f+1)) (List.replicate es.length false,[])
  s.1.length=es.length/\(∀x,x<es.length->(s.1.getD x false=true↔x<k))/\s.2=List.range k:=by
 intro k;induction k with
 |zero=>
  intro _;refine⟨by simp,fun x h=>?_,rfl⟩;show(List.replicate es.length false).getD x false=true↔_;rw[Yap,Ycq];split<;>simp
 |succ k q=>
  intro u;obtain⟨g,a,m⟩:=q (by omega);simp only[YbU,Ybc,YaM,List.foldl_nil];generalize (List.range k).foldl (Zaq es (f+1)) (List.replicate es.length false,[])=s at g a m;have j:¬s.1.getD k false=true:=by rw[a k (by omega)];omega
  have b:(parE es k).foldl (Zaq es f) (s.1.set k true,s.2)=(s.1.set k true,s.2):=by
   refine Zhc f _ _ (fun d n=>?_);have l:=c k (by omega) d n;show(s.1.set k true).getD d false=true;rw[Yap,Ybw (by omega),←Yap];exact(a d (by omega)).2 l
  have p:Zaq es (f+1) s k=(s.1.set k true,s.2++[k]):=by
   unfold Zaq;rw[Yar j,b]
  rw[p];refine⟨by show(s.1.set k true).length=_;rw[YbT];exact g,fun x h=>?_,by show s.2++[k]=_;rw[m]⟩;show(s.1.set k true).getD x false=true↔_;by_cases e:x=k
  ·subst e;rw[Yap,Ybx (by rw[g];exact h)];simp
  ·rw[Yap,Ybw (fun r=>e r.symm),←Yap,a x h];omega
theorem Zpl {es:List Ent}(r:Acyc es)(t:Zdi es)(A:8<=es.length)(n:∀i,i<8->∀d∈parE es i,d<i):Zca es es.length=List.range 8++Zcx es:=by
 obtain⟨f,v⟩:∃f,es.length=f+1:=⟨es.length-1,by omega⟩
 have z:List.range es.length=List.range 8++(List.range (es.length-8)).map (8 + ·):=by
  conv=>lhs;rw[show es.length=8+(es.length-8)by omega]
  exact List.range_add
 unfold Zca Zcx;rw[z,Ybc];obtain⟨h,j,g⟩:=ZkD (es:=es) f A n 8 (Yad _);rw[←v]at h j g;generalize (List.range 8).foldl (Zaq es es.length) (List.replicate es.length false,[])=s at h j g;have u:Vp es.length [] [] s:=⟨h,fun x b=>by rw[j x b,g,YbM];simp,by rw[g,YaN],fun x b=>(by cases b)⟩;have m:∀(l:List Nat) (a:List Nat) (s:List Bool×List Nat),(∀d∈l,d<es.length)->Vp es.length [] a s->Vp es.length [] (l.foldl (putE es es.length) a) (l.foldl (Zaq es es.length) s):=by
  intro l;induction l with
  |nil=>intro a s _ q;exact q
  |cons d l y=>
   intro a s c q;rw[YaM,YaM];exact y _ _ (fun x b=>c x (Yau _ b)) (Zju r t es.length [] a s d (c d Yam) (fun p q=>(by cases q)) q)
 refine(m _ [] s (fun d c=>?_) u).ord;obtain⟨k,w,rfl⟩:=Ya2.1 c;have:=YbM.1 w;show 8+k<es.length;omega
theorem Lined.order {cs:List Cls}(f:Lined cs)(c:Acyc (newT cs)):Zca (newT cs) (newT cs).length=List.range 8++Zcx (newT cs):=
 Zpl c f.par (by rw[ZaX];omega) (fun i b d a=>by
  rw[ZcJ b]at a;have:∀i,i<8->∀d∈parE startL i,d<i:=by decide
  exact this i b d a)
theorem Wise.added_in {es:List Ent}(W:Wise es){i d g:Nat}(c:i<es.length)(a:d∈Zan es (some i))(f:g∈Zas es d):g∈ZaC es (some i):=
 ZcN W.sh (fun h b=>by obtain rfl:=Yac b;exact c) a f
theorem Wise.above_up {es:List Ent}(W:Wise es){i g x:Nat}(c:i<es.length)(a:upAt es i=some g)(f:x∈ZaC es (some g)):x∈ZaC es (some i):=by
 have d:=W.upAt_lt a;rw[W.above_iff c];refine .step ?_ ((W.above_iff d x).1 f);have b:=Yaa c;rw[Zcw b]at a;exact ZbQ b a
def ZrB (es:List Ent)(i:Nat):Prop:=∃a∈ZaC es (some i),∃m∈Zal es a,∃z∈ZaC es (some i),∃k∈Zal es z,m.name=k.name/\ZaJ m≠ZaJ k
theorem Wise.differs_iff {es:List Ent}(W:Wise es){i:Nat}(h:i<es.length)(v:∀d∈Zan es (upAt es i),ZaN es d=false):ZaN es i=true↔ZrB es i:=by
 constructor
 ·intro A;unfold ZaN at A;obtain⟨m,u,a⟩:=YaU.1 A;obtain⟨p,f,s⟩:=YbD.1 (show m∈(Zas es i).flatMap (Zal es)from u);have g:∀p∈Zas es i,p∈ZaC es (some i):=fun p f=>W.added_in h (by rw[W.lineUp h];exact Yam) f;unfold clash knOf at a;cases j:(msE es (Zas es i)).find? (fun k=>k.name==m.name)with
  |none=>rw[j]at a;cases a
  |some l=>
   rw[j]at a;simp only[YbV,bne_iff_ne,ne_eq]at a;have q:l.name=m.name:=by simpa using Ych j
   obtain⟨z,t,y⟩:=YbD.1 (show l∈(Zas es i).flatMap (Zal es)from YbL j);unfold inhE at a;cases b:Zbt es (upAt es i) l.name with
   |none=>
    rw[b]at a;exact⟨p,g p f,m,s,z,g z t,l,y,q.symm,a⟩
   |some B=>
    rw[b]at a;cases n:upAt es i with
    |none=>
     rw[n]at b;have:=(Zdq b).1;unfold ZaC at this;rw[Zbi]at this;cases this
    |some G=>
     rw[n]at b;have w:=W.owner (x:=B.1) (m:=B.2) (W.upAt_lt n) b;exact⟨p,g p f,m,s,B.1,W.above_up h n (Zdq b).1,B.2,w.2.2.1,by rw[w.2.2.2,q],a⟩
 ·rintro⟨p,f,m,u,z,t,k,E,D,F⟩;cases C:ZaN es i with
  |true=>rfl
  |false=>
   exfalso;obtain⟨c,a⟩:=W.signs i h (fun d r=>by
    rw[W.lineUp h]at r;rcases Yai.1 r with e|A
    ·rw[e];exact C
    ·exact v d A) m.name
   exact F (by rw[a p f m u rfl,a z t k E D.symm])
def Lack (es:List Ent)(i:Nat):Prop:=Zcz es i=false/\∃a∈ZaC es (some i),∃m∈Zal es a,absM es i m.name=true
theorem Wise.lacks_iff {es:List Ent}(W:Wise es){i:Nat}(a:i<es.length)(j:∀d∈Zan es (upAt es i),Zb9 es d=false):Zb9 es i=true↔Lack es i:=by
 constructor
 ·intro p;unfold Zb9 at p;rw[Yaw,YaZ,Ybj]at p;refine⟨p.1,?_⟩;have f:∀d∈Zan es (some i),(Zas es d).any (Zb1 es i)=true->∃r∈ZaC es (some i),∃m∈Zal es r,absM es i m.name=true:=by
   intro d b k;obtain⟨r,n,q⟩:=YaU.1 k;unfold Zb1 at q;obtain⟨m,h,g⟩:=YaU.1 q;exact⟨r,W.added_in a b n,m,h,g⟩
  rcases p.2 with l|l
  ·exact f i (by rw[W.lineUp a];exact Yam) l
  ·obtain⟨d,b,s⟩:=YaU.1 l;refine f d ?_ s;rw[W.lineUp a];exact Yau _ ((List.takeWhile_sublist _).subset b)
 ·rintro⟨k,r,n,m,h,g⟩;cases b:Zb9 es i with
  |true=>rfl
  |false=>
   exfalso;have:=W.whole a (fun d c=>by
    rw[W.lineUp a]at c;rcases Yai.1 c with e|p
    ·rw[e];exact b
    ·exact j d p) k r n m h
   rw[g]at this;cases this
theorem Wise.decl_null {es:List Ent}(W:Wise es):Zb6 es Zcv=false:=by
 have b:Zag Zcv=false:=by
  have a:ZaL Zcv=0:=Zig (show ZbS Zcv=true by decide);unfold Zag Zbp;rw[a];decide
 unfold Zb6 topL;rw[b];rw[Yar (by decide),W.not_class Zmb];decide
theorem Wise.there {es:List Ent}(W:Wise es)(s:List UInt8):Zb6 es s=(decide (s≠Zcv)&&ZdX es s):=by
 unfold ZdX;by_cases a:s=Zcv
 ·rw[a,W.decl_null];simp
 ·rw[show(s==Zcv)=false from Yah.2 a];simp[a]
theorem ZnA (es:List Ent)(i:Nat):Zej es i=(Za6 es i).any fun f=>(ZaZ es (Zan es (upAt es i))).any fun g=>g.name==f.name:=by
 unfold Zej hasF
 congr 1
 funext f
 rw[Ybk,YaU,YaU];constructor
 ·rintro⟨x,c,d⟩;obtain⟨g,a,b⟩:=YaU.1 d;exact⟨g,mem_fldsL.2 ⟨x,c,a⟩,b⟩
 ·rintro⟨g,a,b⟩;obtain⟨x,c,d⟩:=mem_fldsL.1 a;exact⟨x,c,YaU.2 ⟨g,d,b⟩⟩
theorem ZfW (cs:List Cls)(n:List UInt8):Zba (allR cs) n=Zad (newT cs) n:=by rw[←Zcs,←Zd1]
theorem Zco (cs:List Cls)(n:List UInt8):Zba (allR cs) n=Zad (Zar cs) n:=by rw[ZfW,ZbB (Zcj cs)]
theorem ZdR (cs:List Cls)(i:Nat):(allR cs)[i]?=((newT cs)[i]?).map Ent.cls:=by rw[←Zcs,Yav]
theorem Zc5 (cs:List Cls):(allR cs).length=8+cs.length:=by rw[←Zcs,YaB,ZaX]
theorem Lined.noname {cs:List Cls}(j:Lined cs):Zad (newT cs) []=none:=by
 cases g:Zad (newT cs) []with
 |none=>rfl
 |some k=>
  exfalso;obtain⟨f,i,h⟩:=ZdK g;have d:Zah f.cls.name=true:=by
   rcases Zbn i with⟨b,a⟩|⟨b,c,a,rfl⟩
   ·exact(Za1 k b f a).1
   ·exact(j.good c (Yaf a)).name
  rw[h]at d;exact absurd d (by decide)
theorem Lined.sup {cs:List Cls}(j:Lined cs){i:Nat}{e:Ent}(d:(newT cs)[i]?=some e):Zad (newT cs) e.cls.sup=e.up:=by
 rcases Zbn d with⟨g,f⟩|⟨g,c,f,rfl⟩
 ·have l:∀i,i<8->∀e,startL[i]?=some e->(e.up=none/\e.cls.sup=[]\/e.up=some 0/\e.cls.sup=objL\/e.up=some 1/\e.cls.sup=Zbe):=by
   intro i m e d
   match i,m,d with
   |0,_,d=>obtain rfl:=Yac d;exact .inl ⟨rfl,rfl⟩
   |1,_,d=>obtain rfl:=Yac d;exact .inr (.inl ⟨rfl,rfl⟩)
   |2,_,d=>obtain rfl:=Yac d;exact .inr (.inr ⟨rfl,rfl⟩)
   |3,_,d=>obtain rfl:=Yac d;exact .inr (.inr ⟨rfl,rfl⟩)
   |4,_,d=>obtain rfl:=Yac d;exact .inr (.inr ⟨rfl,rfl⟩)
   |5,_,d=>obtain rfl:=Yac d;exact .inr (.inr ⟨rfl,rfl⟩)
   |6,_,d=>obtain rfl:=Yac d;exact .inr (.inr ⟨rfl,rfl⟩)
   |7,_,d=>obtain rfl:=Yac d;exact .inr (.inr ⟨rfl,rfl⟩)
   |k+8,n,_=>omega
  rcases l i g e f with⟨a,b⟩|⟨a,b⟩|⟨a,b⟩
  ·rw[a,b];exact j.noname
  ·rw[a,b];exact j.uniq 0 _ (by rw[ZbA (by omega)];rfl)
  ·rw[a,b];exact j.uniq 1 _ (by rw[ZbA (by omega)];rfl)
 ·obtain⟨u,h⟩:=YaL.1 (j.ups c (Yaf f));show Zad (newT cs) c.sup=upE (Zar cs) c.sup;rw[ZbB (Zcj cs),(Zjo h).1,h]
theorem Lined.like {cs:List Cls}(l:Lined cs){i:Nat}{e:Ent}(a:(newT cs)[i]?=some e):e.cls.like.map (Zad (newT cs))=e.lk.map some:=by
 rcases Zbn a with⟨d,b⟩|⟨d,c,b,rfl⟩
 ·have g:∀i,i<8->∀e,startL[i]?=some e->e.cls.like=[]:=by
   intro i j e a
   match i,j,a with
   |0,_,a=>obtain rfl:=Yac a;rfl
   |1,_,a=>obtain rfl:=Yac a;rfl
   |2,_,a=>obtain rfl:=Yac a;rfl
   |3,_,a=>obtain rfl:=Yac a;rfl
   |4,_,a=>obtain rfl:=Yac a;rfl
   |5,_,a=>obtain rfl:=Yac a;rfl
   |6,_,a=>obtain rfl:=Yac a;rfl
   |7,_,a=>obtain rfl:=Yac a;rfl
   |k+8,f,_=>omega
  rw[g i d e b,(Za1 i d e b).2.2.1];rfl
 ·show c.like.map (Zad (newT cs))=(c.like.map fun n=>(Zcp (Zar cs) n).getD 0).map some;rw[Yb1];refine Ycj (fun n h=>?_);obtain⟨k,f⟩:=YaL.1 (YaF.1 (l.likes c (Yaf b)) n h);show Zad (newT cs) n=some ((Zcp (Zar cs) n).getD 0);rw[f,ZbB (Zcj cs)];exact(ZcV f).1
theorem Lined.like_at {cs:List Cls}(c:Lined cs){i:Nat}{e:Ent}(a:(newT cs)[i]?=some e)(k:Nat):(e.cls.like[k]?).map (Zad (newT cs))=(e.lk[k]?).map some:=by
 have b:=Ya8 (fun l=>l[k]?) (c.like a);simpa using b
theorem ZfI {cs:List Cls}(W:Wise (newT cs)){i:Nat}(j:i<8):chkT (newT cs) i=0:=by
 have t:∀v,v<8->Zal (newT cs) v=[]:=fun v s=>by
  unfold Zal;rw[ZbA s];cases h:startL[v]? with
  |none=>rfl
  |some e=>exact(Za1 v s e h).2.2.2.2.2.1
 obtain⟨e,h⟩:∃e,startL[i]?=some e:=⟨_,Yaa (by rw[ZaF];exact j)⟩
 have b:(newT cs)[i]?=some e:=by rw[ZbA j];exact h
 have q:=Za1 i j e h;have m:Zas (newT cs) i=[i]:=by
  unfold Zas;rw[Zbm b,q.2.2.1];obtain⟨f,c⟩:∃f,(newT cs).length=f+1:=⟨7+cs.length,by rw[ZaX];omega⟩
  rw[c];rfl
 have k:Zan (newT cs) (some 0)=[0]:=by
  rw[W.line W.obj];show 0::Zan (newT cs) none=_;rw[Zbi]
 have r:Zan (newT cs) (some 1)=[1,0]:=by
  rw[W.line W.flt];show 1::Zan (newT cs) (some 0)=_;rw[k]
 have u:∀d∈Zan (newT cs) (upAt (newT cs) i),d<8:=by
  rw[Zcw b];cases B:e.up with
  |none=>rw[Zbi];intro d a;cases a
  |some D=>
   have:=q.2.2.2.2.1 D B;rcases(show D=0\/D=1 by omega)with rfl|rfl
   ·rw[k];intro d a;simp at a;omega
   ·rw[r];intro d a;simp at a;omega
 have z:Zej (newT cs) i=false:=by
  unfold Zej Za6;rw[b];show e.cls.flds.any _=false;by_cases F:i=1
  ·subst F;obtain rfl:(⟨Zb8,some 0,[]⟩:Ent)=e:=Yac (show some _=some e from h);rw[Zcw b];unfold hasF;rw[k];show[(⟨Zjv,Zjn,false⟩:Fld)].any (fun f=>[0].any fun x=>(Za6 (newT cs) x).any fun g=>g.name==f.name)=false;have w:Za6 (newT cs) 0=[]:=by unfold Za6;rw[ZbA (by omega)];rfl
   simp[w]
  ·have c:∀i,i<8->i≠1->(startL[i]?).map (fun e=>e.cls.flds.length)=some 0:=by decide
   have:=c i j F;rw[h]at this;have p:e.cls.flds=[]:=Ya0.1 (Yac this);rw[p];rfl
 have C:ZcQ (newT cs) (ZfJ (newT cs) i)=true:=by
  rw[Zhl b];unfold ZcQ;rw[q.2.2.2.2.2.1];have A:∀f∈e.cls.flds,Zb6 (newT cs) f.kind=true:=by
   have n:startL.all (fun e=>e.cls.flds.all fun f=>Zay (topL f.kind))=true:=by decide +kernel
   intro f c;have:=YaF.1 (YaF.1 n e (Yaf h)) f c;unfold Zb6;rw[this];rfl
  have:(e.cls.flds.any fun f=>!Zb6 (newT cs) f.kind)=false:=by
   rw[YaW];intro f c;rw[A f c];decide
  rw[this];rfl
 have p:ZaN (newT cs) i=false:=by
  unfold ZaN msE;rw[m];simp[t i j]
 have y:Zb9 (newT cs) i=false:=by
  unfold Zb9 Zb1;rw[m];have:((Zan (newT cs) (upAt (newT cs) i)).takeWhile (Zcz (newT cs)))=[]:=by
   cases n:Zan (newT cs) (upAt (newT cs) i)with
   |nil=>rfl
   |cons d l=>
    have a:=u d (by rw[n];exact Yam);have E:Zcz (newT cs) d=false:=by
     unfold Zcz;rw[ZbA a];have:∀d,d<8->(match startL[d]? with|some e=>e.cls.abs|none=>false)=false:=by decide
     exact this d a
    rw[List.takeWhile_cons,E];rfl
  rw[this];simp[t i j]
 unfold chkT;rw[z,C,p,y];rfl
def Clo (es:List Ent)(a:List Nat):Prop:=∀k x,a[k]?=some x->∀d∈parE es x,8<=d->d∈a.take k
theorem Zps {es:List Ent}:∀(f:Nat) (a:List Nat) (i:Nat),Zhe es f i->Clo es a->Clo es (putE es f a i)/\a <+: putE es f a i/\(8<=i->i∈putE es f a i)
 |0,_,_,v,_=>v.elim
 |f+1,a,i,v,h=>by
  have r:∀(l a:List Nat),(∀d∈l,Zhe es f d)->Clo es a->Clo es (l.foldl (putE es f) a)/\a <+: l.foldl (putE es f) a/\∀d∈l,8<=d->d∈l.foldl (putE es f) a:=by
   intro l;induction l with
   |nil=>intro a _ h;exact⟨h,List.prefix_refl _,fun d b=>(by cases b)⟩
   |cons d l y=>
    intro a b h;obtain⟨u,w,z⟩:=Zps f a d (b d Yam) h;obtain⟨s,n,p⟩:=y (putE es f a d) (fun B j=>b B (Yau _ j)) u;rw[YaM];refine⟨s,w.trans n,fun B j g=>?_⟩;rcases Yai.1 j with e|j
    ·rw[e];exact n.subset (z (e▸g))
    ·exact p B j g
  unfold putE;split
  ·rename_i A;exact⟨h,List.prefix_refl _,fun g=>A.resolve_left (by omega)⟩
  ·obtain⟨s,n,p⟩:=r (parE es i) a (fun d b=>v d b) h;refine⟨fun k x c d b g=>?_,n.trans (List.prefix_append _ _),fun _=>Ya3 _ (Yax.2 rfl)⟩;rcases YaC k ((parE es i).foldl (putE es f) a).length with q|q
   ·rw[YaR q]at c;rw[YbE (by omega)];exact s k x c d b g
   ·rw[YaJ q]at c;have m:k-((parE es i).foldl (putE es f) a).length=0:=by
     rcases YbR (k-((parE es i).foldl (putE es f) a).length)with m|m
     ·exact m
     ·rw[YaS (by simp;omega)]at c;cases c
    rw[m]at c;obtain rfl:=Yac (show some i=some x from c);have t:k=((parE es i).foldl (putE es f) a).length:=by omega
    rw[t,YbE (Yad _),YaE];exact p d b g
theorem ZmM {es:List Ent}(W:Wise es)(k:Nat)(c:k<=es.length-8):Clo es (((List.range k).map (8 + ·)).foldl (putE es es.length) []):=by
 induction k with
 |zero=>intro k x b;simp at b
 |succ k a=>
  rw[YbU,Ya9,Ybc];exact(Zps es.length _ (8+k) (W.deepU (by omega)) (a (by omega))).1
theorem Zqm {cs:List Cls}{b:List Nat}(s:Clo (newT cs) b):∀(k x:Nat),b[k]?=some x->∀d,Over (newT cs) x d->d<8\/d∈b.take k:=by
 have n:∀ {x u:Nat},Up (newT cs) x u->x<8->u<8:=by
  intro x u q;induction q with
  |refl=>exact id
  |step j _ h=>
   intro a;rw[ZcJ a]at j;have:∀i,i<8->∀d∈parE startL i,d<i:=by decide
   exact h (Nat.lt_trans (this _ a _ j) a)
 intro k;induction k using Nat.strongRecOn with
 |ind k h=>
  rintro x a d⟨p,r,m⟩;rcases YaC p 8 with g|g
  ·exact .inl (n m g)
  ·have l:=s k x a p r g;rcases m.over with e|t
   ·exact .inr (e▸l)
   ·obtain⟨v,c⟩:=Ya4.1 l;rw[YbQ]at c;split at c
    ·rename_i f;rcases h v f p c d t with q|q
     ·exact .inl q
     ·exact .inr (List.take_subset_take_left _ (Nat.le_of_lt f) q)
    ·cases c
def Zcn (es:List Ent)(i:Nat)(R:Nat->Bool):Nat->List Mth
 |0=>[]
 |k+1=>Zcn es i R k++(if(k==i || R k)=true then Zal es k else[])
theorem Zgd {es:List Ent}{i:Nat}{R:Nat->Bool}(m:Mth):∀n,m∈Zcn es i R n↔∃k,k<n/\(k=i\/R k=true)/\m∈Zal es k
 |0=>by simp[Zcn]
 |n+1=>by
  unfold Zcn;rw[Yaq,Zgd m n];constructor
  ·rintro(⟨k,d,a⟩|f)
   ·exact⟨k,by omega,a⟩
   ·split at f
    ·rename_i b;refine⟨n,by omega,?_,f⟩;rw[YaZ,beq_iff_eq]at b;exact b
    ·cases f
  ·rintro⟨k,d,a,c⟩;rcases YaC k n with g|g
   ·exact .inl ⟨k,g,a,c⟩
   ·obtain rfl:k=n:=by omega
    refine .inr ?_;rw[Yay (by rw[YaZ,beq_iff_eq];exact a)];exact c
theorem Zhj {es:List Ent}{i:Nat}{R:Nat->Bool}(a:∀k,(Zal es k).length<=32):∀n,(Zcn es i R n).length<=n*32
 |0=>by simp[Zcn]
 |n+1=>by
  unfold Zcn;have b:=Zhj (i:=i) (R:=R) a n;have c:=a n;rw[Yal];split
  ·omega
  ·simp;omega
theorem Wise.all_above {es:List Ent}(W:Wise es){i:Nat}(f:i<es.length){R:Nat->Bool}(d:∀k,k<es.length->(R k=true↔Over es i k))(m:Mth) :
  m∈Zcn es i R es.length↔∃c∈ZaC es (some i),m∈Zal es c:=by
 rw[Zgd];constructor
 ·rintro⟨k,h,l,j⟩;refine⟨k,(W.above_iff f k).2 ?_,j⟩;rcases l with e|n
  ·rw[e];exact .refl _
  ·exact((d k h).1 n).up
 ·rintro⟨c,p,a⟩;have b:c<es.length:=by
   unfold Zal at a;cases g:es[c]? with
   |none=>rw[g]at a;cases a
   |some e=>exact(Yag.1 g).1
  refine⟨c,b,?_,a⟩;rcases((W.above_iff f c).1 p).over with e|n
  ·exact .inl e.symm
  ·exact .inr ((d c b).2 n)
def Ze2 (l:List Mth):Prop:=∃(a b:Nat) (x c:Mth),b<a/\l[a]?=some x/\l[b]?=some c/\x.name=c.name/\ZaJ x≠ZaJ c
theorem Wise.differ_pair {es:List Ent}(W:Wise es){i:Nat}(h:i<es.length){R:Nat->Bool}(g:∀k,k<es.length->(R k=true↔Over es i k)) :
  ZrB es i↔Ze2 (Zcn es i R es.length):=by
 constructor
 ·rintro⟨r,v,m,l,z,u,k,q,j,f⟩;obtain⟨a,d⟩:=Ya4.1 ((W.all_above h g m).2 ⟨r,v,l⟩);obtain⟨b,c⟩:=Ya4.1 ((W.all_above h g k).2 ⟨z,u,q⟩);rcases Nat.lt_trichotomy a b with n|n|n
  ·exact⟨b,a,k,m,n,c,d,j.symm,fun e=>f e.symm⟩
  ·subst n;rw[d]at c;obtain rfl:=Yac c;exact absurd rfl f
  ·exact⟨a,b,m,k,n,d,c,j,f⟩
 ·rintro⟨a,b,x,r,_,d,c,j,f⟩;obtain⟨p,s,l⟩:=(W.all_above h g x).1 (Yaf d);obtain⟨n,t,q⟩:=(W.all_above h g r).1 (Yaf c);exact⟨p,s,x,l,n,t,r,q,j,f⟩
theorem Wise.lack_all {es:List Ent}(W:Wise es){i:Nat}(f:i<es.length){R:Nat->Bool}(d:∀k,k<es.length->(R k=true↔Over es i k)) :
  Lack es i↔Zcz es i=false/\∃m∈Zcn es i R es.length,absM es i m.name=true:=by
 constructor
 ·rintro⟨g,h,c,m,a,b⟩;exact⟨g,m,(W.all_above f d m).2 ⟨h,c,a⟩,b⟩
 ·rintro⟨g,m,a,b⟩;obtain⟨h,c,a⟩:=(W.all_above f d m).1 a;exact⟨g,h,c,m,a,b⟩
theorem Wise.all_has {es:List Ent}(W:Wise es){i:Nat}(c:i<es.length){R:Nat->Bool}(b:∀k,k<es.length->(R k=true↔Over es i k)){m:Mth}(a:m∈Zcn es i R es.length) :
  ∃f,Zbt es (some i) m.name=some f:=by
 obtain⟨g,d,a⟩:=(W.all_above c b m).1 a;exact YaL.1 (Zdr d a)
def ZbJ (m:Mth):List (List UInt8):=m.params++(if m.res=[]then[]else[m.res])
def Zc9 (c:Cls):List (List UInt8):=c.flds.map Fld.kind++c.mths.flatMap ZbJ
theorem ZlY (es:List Ent)(c:Cls):ZcQ es c=(Zc9 c).all (Zb6 es):=by
 unfold ZcQ Zc9;rw[Ybk,Yaw,Ybj,Ybj,YaW,YaW,YaF];constructor
 ·rintro⟨j,l⟩s b;rcases Yaq.1 b with a|a
  ·obtain⟨f,h,rfl⟩:=Ya2.1 a;have:=j f h;simpa using this
  ·obtain⟨m,g,a⟩:=YbD.1 a;have k:=l m g;rw[YaZ,not_or,Bool.not_eq_true,YaW]at k;unfold ZbJ at a;rcases Yaq.1 a with a|a
   ·have:=k.1 s a;simpa using this
   ·split at a
    ·cases a
    ·rename_i d;rw[Yax.1 a];have:=k.2;simpa[d]using this
 ·intro a;refine⟨fun f h=>?_,fun m g=>?_⟩
  ·have:=a f.kind (Yba _ (Ya2.2 ⟨f,h,rfl⟩));simp[this]
  ·have i:∀s∈ZbJ m,Zb6 es s=true:=fun s b=>a s (Ya3 _ (YbD.2 ⟨m,g,b⟩));unfold ZbJ at i;rw[YaZ,not_or,Bool.not_eq_true,YaW];refine⟨fun s b=>by have:=i s (Yba _ b);simp[this],?_⟩;by_cases d:m.res=[]
   ·simp[d]
   ·have:=i m.res (Ya3 _ (by rw[Yar d];exact Yax.2 rfl));simp[d,this]
theorem ZkI {es:List Ent}{x:Nat}(a:chkT es x=0):Zej es x=false/\ZcQ es (ZfJ es x)=true/\ZaN es x=false/\Zb9 es x=false:=by
 unfold chkT at a;split at a
 ·cases a
 split at a
 ·cases a
 split at a
 ·cases a
 split at a
 ·cases a
 simp_all
theorem Wise.chk_pair {es:List Ent}(W:Wise es){i:Nat}(b:i<es.length){R:Nat->Bool}(f:∀k,k<es.length->(R k=true↔Over es i k))(a:∀d∈Zan es (upAt es i),chkT es d=0) :
  (ZaN es i=true↔Ze2 (Zcn es i R es.length))/\(Zb9 es i=true↔Zcz es i=false/\∃m∈Zcn es i R es.length,absM es i m.name=true):=
 ⟨(W.differs_iff b (fun d c=>(ZkI (a d c)).2.2.1)).trans (W.differ_pair b f),(W.lacks_iff b (fun d c=>(ZkI (a d c)).2.2.2)).trans (W.lack_all b f)⟩
theorem ZhO {es:List Ent}(y:Acyc es)(v:Zdi es):∀(f:Nat) (out:List Nat) (i:Nat),i<es.length->out.Nodup->(∀x∈out,x<es.length)->(putE es f out i).Nodup/\∀x∈putE es f out i,x<es.length/\(x∈out\/Up es i x)
 |0,out,i,_,n,m=>⟨n,fun x c=>⟨m x c,.inl c⟩⟩
 |f+1,out,i,A,n,m=>by
  unfold putE;split
  ·exact⟨n,fun x c=>⟨m x c,.inl c⟩⟩
  ·rename_i C;have t:∀(l g:List Nat),(∀d∈l,d∈parE es i)->g.Nodup->(∀x∈g,x<es.length/\(x∈out\/∃d∈parE es i,Up es d x))->
     (l.foldl (putE es f) g).Nodup/\∀x∈l.foldl (putE es f) g,x<es.length/\(x∈out\/∃d∈parE es i,Up es d x):=by
    intro l;induction l with
    |nil=>intro g _ r p;exact⟨r,p⟩
    |cons d l B=>
     intro g h r p;rw[YaM];have q:=h d Yam;obtain⟨u,j⟩:=ZhO y v f g d (v i d q) r (fun x c=>(p x c).1);refine B _ (fun x c=>h x (Yau _ c)) u (fun x c=>⟨(j x c).1,?_⟩);rcases(j x c).2 with k|k
     ·exact(p x k).2
     ·exact .inr ⟨d,q,k⟩
   obtain⟨u,j⟩:=t (parE es i) out (fun _ k=>k) n (fun x c=>⟨m x c,.inl c⟩);refine⟨?_,fun x c=>?_⟩
   ·rw[Yb8];refine⟨u,by simp,fun a z b w e=>?_⟩;rw[Yax.1 w]at e;subst e;rcases(j a z).2 with k|⟨d,h,s⟩
    ·exact C (.inr k)
    ·exact y a ⟨d,h,s⟩
   ·rcases Yaq.1 c with k|k
    ·refine⟨(j x k).1,(j x k).2.imp id (fun⟨d,h,s⟩=>.step h s)⟩
    ·rw[Yax.1 k];exact⟨A,.inr (.refl _)⟩
def putO (es:List Ent)(f:Nat)(a:List Nat)(o:Option Nat):List Nat:=match o with|none=>a|some i=>putE es f a i
theorem Lined.upsMap {cs:List Cls}(b:Lined cs){i:Nat}{e:Ent}(a:(newT cs)[i]?=some e):(e.cls.sup::e.cls.like).map (Zad (newT cs))=e.up::e.lk.map some:=by rw[YbI,b.sup a,b.like a]
theorem Zry {es:List Ent}{i:Nat}{e:Ent}(g:es[i]?=some e)(f:Nat)(a:List Nat):(e.up::e.lk.map some).foldl (putO es f) a=(parE es i).foldl (putE es f) a:=by
 have b:∀(l:List Nat) (a:List Nat),(l.map some).foldl (putO es f) a=l.foldl (putE es f) a:=by
  intro l;induction l with
  |nil=>intro a;rfl
  |cons d l c=>intro a;rw[YbI,YaM,YaM];exact c _
 rw[ZcY g,YaM,b];unfold Ent.par putO;cases e.up with
 |none=>rfl
 |some h=>rfl
def rowC (n:Nat)(f:Nat->Bool):List Value:=(List.range n).map fun a=>.bool (f a)
theorem ZpA {n:Nat}{f:Nat->Bool}{a:Nat}(b:a<n):(rowC n f)[a]?=some (.bool (f a)):=by unfold rowC;rw[Yav,Ybl b];rfl
theorem Zri (n:Nat):List.replicate n (Value.bool false)=rowC n (fun _=>false):=by
 apply Yb5;intro b;unfold rowC;rw[Ycq,Yav];by_cases a:b<n
 ·rw[Yay a,Ybl a];rfl
 ·rw[Yar a,YaS (by rw[Yb7];omega)];rfl
theorem Zlb (n:Nat)(f:Nat->Bool)(d:Nat)(b:Bool):(rowC n f).set d (.bool b)=rowC n (fun x=>if x=d then b else f x):=by
 apply Yb5;intro k;unfold rowC;rw[List.getElem?_set,Yav,YaB,Yb7];by_cases a:k<n
 ·by_cases c:d=k
  ·subst c;rw[Yay rfl,Yay a,Yav,Ybl a];simp
  ·rw[Yar c,Yav,Ybl a];simp only[YbV];rw[Yar (fun e=>c e.symm)]
 ·rw[Yav,YaS (l:=List.range n) (by rw[Yb7];omega)];split
  ·rename_i c;subst c;rw[Yar a];rfl
  ·rfl
theorem ZcM {n:Nat}{f g:Nat->Bool}(c:∀a,a<n->f a=g a):rowC n f=rowC n g:=by
 unfold rowC;exact Ycj (fun a b=>by rw[c a (YbM.1 b)])
def rowV (n b:Nat):Value:=.slice (some ⟨b,0,none⟩) n n
structure Mat (lo n:Nat) (w:World) (RB:List Nat) (M:Nat->Nat->Bool):Prop where
 lo:∀b∈RB,lo<=b
 nd:RB.Nodup
 row:∀(i b:Nat),RB[i]?=some b->MRow w b n 4 (rowC n (M i))
section
variable {lo n:Nat}{w w':World}{RB:List Nat}{M:Nat->Nat->Bool}
theorem Mat.nil:Mat lo n w [] M:=⟨fun b a=>(by cases a),Yb9,fun i b a=>(by simp at a)⟩
theorem Mat.keep {S:Nat->Prop}(d:Mat lo n w RB M)(f:Only S w w')(c:∀b∈RB,¬S b):Mat lo n w' RB M:=
 ⟨d.lo,d.nd,fun i b a=>(d.row i b a).keep f (c b (Yaf a))⟩
theorem Mat.below (b:Mat lo n w RB M)(a:Below w.heap.size w w'):Mat lo n w' RB M:=b.keep (Yae (S:=fun _=>False) a) (fun _ _=>id)
theorem Mat.cell (f:Mat lo n w RB M){i b c:Nat}(d:RB[i]?=some b)(a:c<n):w.cell? ⟨b,c,none⟩=some (.bool (M i c)):=by
 rw[(f.row i b d).at_ c a];exact ZpA a
theorem Mat.free (d:Mat lo n w RB M){i b:Nat}(a:RB[i]?=some b)(c:Nat):w.frozen? ⟨b,c,none⟩=false:=(d.row i b a).free c
theorem Mat.at_inj (m:Mat lo n w RB M){i k b:Nat}(j:RB[i]?=some b)(l:RB[k]?=some b):i=k:=by
 obtain⟨c,g⟩:=Yag.1 j;obtain⟨d,h⟩:=Yag.1 l;have a:=List.pairwise_iff_getElem.1 m.nd;rcases Nat.lt_trichotomy i k with f|f|f
 ·exact absurd (g.trans h.symm) (a i k c d f)
 ·exact f
 ·exact absurd (h.trans g.symm) (a k i d c f)
theorem Mat.set (m:Mat lo n w RB M){i b:Nat}(h:RB[i]?=some b)(g:Nat)(x:Bool):Mat lo n (w.setCell ⟨b,g,none⟩ (.bool x)) RB (updM M i g x):=by
 refine⟨m.lo,m.nd,fun k c d=>?_⟩;by_cases e:k=i
 ·subst e;rw[h]at d;obtain rfl:=Yac d;have a:=(m.row k b h).set g (.bool x);rw[Zlb]at a;have j:rowC n (updM M k g x k)=rowC n (fun q=>if q=g then x else M k q):=ZcM (fun q _=>by
   unfold updM;by_cases f:q=g
   ·rw[Yay ⟨rfl,f⟩,Yay f]
   ·rw[Yar (fun a=>f a.2),Yar f])
  rw[j];exact a
 ·have l:c≠b:=fun a=>e (m.at_inj d (a▸h));have a:=(m.row k c d).keep ((Yak (fun z=>z=b) w).setCell (p:=⟨b,g,none⟩) rfl (.bool x)) l;have j:rowC n (updM M i g x k)=rowC n (M k):=ZcM (fun q _=>by unfold updM;rw[Yar (fun a=>e a.1)]);rw[j];exact a
theorem Mat.snoc (p:Mat lo n w RB M){b:Nat}{f:Nat->Bool}(m:MRow w b n 4 (rowC n f))(j:lo<=b)(l:b ∉ RB):Mat lo n w (RB++[b]) (fun i=>if i=RB.length then f else M i):=by
 refine⟨fun c d=>?_,?_,fun i c d=>?_⟩
 ·rcases Yaq.1 d with d|d
  ·exact p.lo c d
  ·rw[Yax.1 d];exact j
 ·rw[Yb8];exact⟨p.nd,by simp,fun a k c d e=>l (by rw[←Yax.1 d,←e];exact k)⟩
 ·rcases YaC i RB.length with h|h
  ·rw[YaR h]at d;rw[Yar (by omega)];exact p.row i c d
  ·rw[YaJ h]at d;have g:i-RB.length=0:=by
    rcases YbR (i-RB.length)with g|g
    ·exact g
    ·rw[YaS (by simp;omega)]at d;cases d
   rw[g]at d;obtain rfl:=Yac (show some b=some c from d);rw[Yay (by omega)];exact m
end
def upsB (L:List Cls)(c:Cls)(k a:Nat):Bool:=((c.sup::c.like).take k).any fun n=>Zba L n==some a
def Zh1 (L:List Cls)(i a:Nat):Bool:=match L[i]? with|some c=>upsB L c (c.like.length+1) a|none=>false
theorem ZpK (L:List Cls)(i d:Nat):Zh1 L i d=true↔StepR L i d:=by
 unfold Zh1 StepR upsB;cases L[i]? with
 |none=>exact⟨fun a=>(by cases a),fun⟨c,a,_⟩=>(by cases a)⟩
 |some c=>
  have e:(c.sup::c.like).take (c.like.length+1)=c.sup::c.like:=Yaz (by simp);simp only[e,YaU,beq_iff_eq,Ya1];constructor
  ·rintro⟨n,b,a⟩;exact⟨c,rfl,n,b,a⟩
  ·rintro⟨_,rfl,n,b,a⟩;exact⟨n,b,a⟩
theorem ZpX (L:List Cls)(c:Cls)(a:Nat):upsB L c 0 a=false:=by simp[upsB]
theorem ZpW (L:List Cls)(c:Cls)(k a:Nat)(n:List UInt8)(b:(c.sup::c.like)[k]?=some n):upsB L c (k+1) a=(upsB L c k a || Zba L n==some a):=by
 unfold upsB;rw[Zap _ _ k n b]
def Zh5 (L:List Cls)(w:World)(e:Ending)(w':World):Prop:=∃(c:List Nat) (v:Value) (d:Nat->Nat->Bool),e=.returned v/\Mat w.heap.size L.length w' c d/\c.length=L.length/\
 Src 1 (Flat (rowV L.length)) (fun k=>w.heap.size<=k) w' v c/\(∀a b,a<L.length->b<L.length->(d a b=true↔Plus (StepR L) a b))/\Below w.heap.size w w'
theorem Zkw {α:Type}{f:α->Value}{n:Nat}(c:∀x,(f x).cells.size=n)(W:World)(x:α)(t:TypeId):Src n (Flat f) Anyw (W.alloc (.cells (f x).cells t)) (.slice (some ⟨W.heap.size,0,none⟩) 1 1) [x]:=by
 refine .inr ⟨W.heap.size,0,1,rfl,⟨trivial,by simp,Yad _,by decide⟩,fun k h a=>?_⟩;cases k with
 |zero=>
  obtain rfl:=Yac a;exact⟨f x,rfl,c x,fun b u d=>by
   have g:=(Box.new W (f x).cells t).cell b d;rw[show 0+0*n+b=b by omega];exact g⟩
 |succ k=>simp at a
theorem ZeV {α:Type}{n:Nat}{R:Zao α}(t:TypeId)(lo:Nat)(W:World)(d:lo<=W.heap.size):TRow n t R lo (W.alloc (.cells #[] t)) (.slice (some ⟨W.heap.size,0,none⟩) 0 0) [] []:=
 ⟨⟨by simp[ZaO],.inr ⟨W.heap.size,0,#[],rfl,Yao _,heap_alloc_new W _,Yad _,Yao _,by simp,by simp[ZaO]⟩⟩,fun g a=>by simp[Value.ownBlock]at a;omega,rfl,fun u b=>by simp at b,fun k x c=>by simp at c⟩
theorem ZhY (lo:Nat)(W:World)(d:lo<=W.heap.size)(s:List UInt8):TRow 1 9 StrR lo (W.alloc (.cells #[.string (S s)] 9)) (.slice (some ⟨W.heap.size,0,none⟩) 1 1) [s] [.string (S s)]:=
 ⟨⟨rfl,.inr ⟨W.heap.size,1,#[.string (S s)],rfl,Yao _,heap_alloc_new W _,Yad _,by decide,rfl,rfl⟩⟩,fun g b=>by simp[Value.ownBlock]at b;omega,rfl,fun u c=>by rw[Yax.1 c];rfl,fun k x a=>by
  cases k with
  |zero=>obtain rfl:=Yac a;exact⟨_,rfl,rfl⟩
  |succ k=>simp at a⟩
theorem Zc1 {A:Nat->Prop}(lo:Nat)(W:World)(v sv:Value)(ty:TypeId)(l1 l2:List (List UInt8))(j:TRow 1 9 StrR lo W v l1 (l1.map strV))(i:lo<=W.heap.size)(l:Src 1 StrR A W sv l2)(m:l1.length+l2.length<=1048576) :
  ∃a w',(Builtin.append_ #[22,22] ty #[v,sv]).run prog W=.ok a w'/\TRow 1 9 StrR lo w' a (l1++l2) ((l1++l2).map strV)/\Grew W v w' a:=by
 obtain⟨k,d,g,b,h⟩:=info_parts ZhA;exact Zbu (f:=strV) (n:=1) (by decide) (fun x=>rfl) (fun x u c=>by simp[Value.cells,strV]at c;rw[c];rfl) 22 ty 9 k _ 16 underlying22 d g b h rfl j i l (by omega) (by omega)
theorem ZfY {A:Nat->Prop}(lo:Nat)(W:World)(v sv:Value)(ty:TypeId)(l1 l2:List Fld)(j:TRow 3 82 FldR lo W v l1 (l1.map fldV))(i:lo<=W.heap.size)(l:Src 3 FldR A W sv l2)(m:l1.length+l2.length<=1048576) :
  ∃a w',(Builtin.append_ #[67,67] ty #[v,sv]).run prog W=.ok a w'/\TRow 3 82 FldR lo w' a (l1++l2) ((l1++l2).map fldV)/\Grew W v w' a:=by
 obtain⟨k,d,g,b,h⟩:=info_parts ZkU;exact Zbu (f:=fldV) (n:=3) (by decide) (fun _=>rfl) (fun x u c=>by simp[Value.cells]at c;rcases c with rfl|rfl|rfl<;>rfl) 67 ty 82 k _ 40 underlying67 d g b h rfl j i l (by omega) (by omega)
theorem Zom:(prog.info? 74).map (fun i=>(i.zero,i.size,i.bytes))=some (some (.slice none 0 0),1,24):=by kernel_rfl
theorem Zko {A:Nat->Prop}(n lo:Nat)(W:World)(v sv:Value)(ty:TypeId)(l1 l2:List Nat)(j:TRow 1 74 (Flat (rowV n)) lo W v l1 (l1.map (rowV n)))(i:lo<=W.heap.size)(l:Src 1 (Flat (rowV n)) A W sv l2)(m:l1.length+l2.length<=1048576) :
  ∃a w',(Builtin.append_ #[85,85] ty #[v,sv]).run prog W=.ok a w'/\TRow 1 74 (Flat (rowV n)) lo w' a (l1++l2) ((l1++l2).map (rowV n))/\Grew W v w' a:=by
 obtain⟨k,d,g,b,h⟩:=info_parts Zom;exact Zbu (f:=rowV n) (n:=1) (by decide) (fun x=>rfl) (fun x u c=>by simp[Value.cells,rowV]at c;rw[c];rfl) 85 ty 74 k _ 24 underlying85 d g b h rfl j i l (by omega) (by omega)
theorem Zoo:(prog.info? 3).map (fun i=>(i.zero,i.size,i.bytes))=some (some (.int .i64 0),1,8):=by kernel_rfl
def natV (k:Nat):Value:=.int .i64 (k:Nat)
theorem Zj1 {A:Nat->Prop}(lo:Nat)(W:World)(v sv:Value)(ty:TypeId)(l1 l2:List Nat)(j:TRow 1 3 (Flat natV) lo W v l1 (l1.map natV))(i:lo<=W.heap.size)(l:Src 1 (Flat natV) A W sv l2)(m:l1.length+l2.length<=1048576) :
  ∃a w',(Builtin.append_ #[87,87] ty #[v,sv]).run prog W=.ok a w'/\TRow 1 3 (Flat natV) lo w' a (l1++l2) ((l1++l2).map natV)/\Grew W v w' a:=by
 obtain⟨k,d,g,b,h⟩:=info_parts Zoo;exact Zbu (f:=natV) (n:=1) (by decide) (fun x=>rfl) (fun x u c=>by simp[Value.cells,natV]at c;rw[c];rfl) 87 ty 3 k _ 8 underlying87 d g b h rfl j i l (by omega) (by omega)
