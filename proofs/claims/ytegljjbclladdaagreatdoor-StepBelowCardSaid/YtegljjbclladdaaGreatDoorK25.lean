/- laws -/
import Derived.Test.YtegljjbclladdaaGreatDoorK24
import Derived.Shelf.Strings.OnBuilder
set_option maxRecDepth 100000
set_option maxHeartbeats 16000000
namespace Go.Proofs.YtegljjbclladdaaGreatDoor
open Go.RowKit Tryz
inductive Up (es:List Ent):Nat->Nat->Prop
 |refl (x:Nat):Up es x x
 |step {x d y:Nat}:d∈parE es x->Up es d y->Up es x y
theorem Up.trans {es:List Ent}{x c z:Nat}(d:Up es x c)(k:Up es c z):Up es x z:=by
 induction d with
 |refl=>exact k
 |step b _ a=>exact .step b (a k)
theorem Up.one {es:List Ent}{x d:Nat}(a:d∈parE es x):Up es x d:=.step a (.refl _)
def Over (es:List Ent)(x a:Nat):Prop:=∃d∈parE es x,Up es d a
theorem Up.over {es:List Ent}{x b:Nat}(d:Up es x b):x=b\/Over es x b:=by
 cases d with
 |refl=>exact .inl rfl
 |step a c=>exact .inr ⟨_,a,c⟩
theorem Over.up {es:List Ent}{x c:Nat}(d:Over es x c):Up es x c:=let⟨_,a,b⟩:=d;.step a b
theorem Over.then {es:List Ent}{x c z:Nat}(f:Over es x c)(k:Up es c z):Over es x z:=let⟨d,a,b⟩:=f;⟨d,a,b.trans k⟩
theorem Up.inv {es:List Ent}{P:Nat->Prop}(f:∀x d,P x->d∈parE es x->P d){x g:Nat}(h:Up es x g)(a:P x):P g:=by
 induction h with
 |refl=>exact a
 |step b _ c=>exact c (f _ _ a b)
abbrev Grp.num (s:Grp)(x:Nat):Nat:=s.met.getD x 0
abbrev Grp.flag (s:Grp)(x:Nat):Bool:=s.loop.getD x false
structure TJ (es:List Ent) (n:Nat) (gs:List Nat) (s:Grp):Prop where
 gi:GI n s
 llen:s.loop.length=n
 opn:∀x,x∈s.opn↔s.num x≠0/\s.num x≠Za5
 le:∀x∈s.opn,s.num x<=s.cnt
 ord:s.opn.Pairwise fun x y=>s.num x<s.num y
 closed:∀x,s.num x=Za5->∀d∈parE es x,s.num d=Za5
 black:∀x∈s.opn,x ∉ gs->∀d∈parE es x,s.num d≠0
 grey:∀x∈s.opn,∃g∈gs,g∈s.opn/\s.num g<=s.num x/\Up es x g
 flags:∀x,s.num x=Za5->(s.flag x=true↔Over es x x)
 gsub:∀g∈gs,g∈s.opn
structure TX (es:List Ent) (c:Nat) (s s':Grp):Prop where
 same:∀x,s.num x≠0->s'.num x=s.num x
 tail:∃l,s'.opn=s.opn++l/\∀x∈l,s.cnt<s'.num x
 cnt:s.cnt<=s'.cnt
 from_:∀x,s.num x=0->s'.num x≠0->Up es c x
 left:Za7 s'.met<=Za7 s.met
theorem TX.refl (es:List Ent)(c:Nat)(s:Grp):TX es c s s:=⟨fun _ _=>rfl,⟨[],by simp,fun _ a=>(by cases a)⟩,Yad _,fun x a k=>absurd a k,Yad _⟩
theorem TX.trans {es:List Ent}{c:Nat}{s d i:Grp}(f:TX es c s d)(k:TX es c d i):TX es c s i:=by
 obtain⟨l,p,n⟩:=f.tail;obtain⟨q,h,g⟩:=k.tail;refine⟨fun x a=>by rw[k.same x (by rw[f.same x a];exact a),f.same x a],⟨l++q,by rw[h,p,YaY],fun x a=>?_⟩,Yaj f.cnt k.cnt,fun x j m=>?_,Yaj k.left f.left⟩
 ·rcases Yaq.1 a with a|a
  ·have b:=n x a;rw[k.same x (by omega)];exact b
  ·have:=g x a;have:=f.cnt;omega
 ·by_cases b:d.num x=0
  ·exact k.from_ x b m
  ·exact f.from_ x j b
theorem TX.mono {es:List Ent}{c d:Nat}{s g:Grp}(f:TX es d s g)(h:Up es c d):TX es c s g:=⟨f.same,f.tail,f.cnt,fun x a b=>h.trans (f.from_ x a b),f.left⟩
theorem TX.mem {es:List Ent}{c:Nat}{s a:Grp}(f:TX es c s a){x:Nat}(b:x∈s.opn):x∈a.opn:=by
 obtain⟨l,d,_⟩:=f.tail;rw[d];exact Yba _ b
theorem TX.old {es:List Ent}{c:Nat}{s a:Grp}(i:TX es c s a){x:Nat}(d:x∈a.opn)(h:a.num x<=s.cnt):x∈s.opn:=by
 obtain⟨l,g,f⟩:=i.tail;rw[g]at d;rcases Yaq.1 d with b|b
 ·exact b
 ·have:=f x b;omega
structure TM (es:List Ent) (n:Nat) (gs:List Nat) (c:Nat) (s s':Grp) (v:Nat):Prop where
 tj:TJ es n gs s'
 tx:TX es c s s'
 met:s'.num c≠0
 num:c∈s'.opn->s'.num c=s.cnt+1
 low:v=s.cnt+1\/v<s.cnt+1/\∃y∈s.opn,s.num y=v/\Up es c y
 edge:∀x∈s'.opn,s.cnt<s'.num x->∀d∈parE es x,d∈s'.opn->v<=s'.num d
 pos:0<v
theorem ZdH {α:Type}(z b:α):∀(l:List Nat) (m:List α) (x:Nat),x<m.length->(l.foldl (fun m c=>m.set c z) m).getD x b=if x∈l then z else m.getD x b
 |[],m,x,_=>by simp
 |c::l,m,x,hx=>by
  rw[YaM,ZdH z b l (m.set c z) x (by simpa using hx)];by_cases a:x∈l
  ·rw[Yay a,Yay (Yau c a)]
  ·rw[Yar a];by_cases d:x=c
   ·subst d;rw[Yay Yam,Yap,Ybx hx];rfl
   ·rw[Yar (fun f=>(Yai.1 f).elim d a),Yap,Ybw (fun e=>d e.symm),Yap]
theorem Zfj {α:Type}(z:α):∀(l:List Nat) (m:List α),(l.foldl (fun m c=>m.set c z) m).length=m.length
 |[],m=>rfl
 |c::l,m=>by rw[YaM,Zfj z l];simp
theorem Zka {n:Nat}{s:Grp}(b:GI n s){x:Nat}(a:n<=x):s.num x=0:=by
 show s.met.getD x 0=0;rw[Yap,YaS (by rw[b.mlen];exact a)];rfl
theorem Zsg {n:Nat}{s:Grp}(c:GI n s){x:Nat}(b:s.num x≠0):x<n:=by
 rcases YaC x n with a|a
 ·exact a
 ·exact absurd (Zka c a) b
theorem Zmc {n:Nat}{s:Grp}(b:GI n s)(k x:Nat)(a:x<n):(Zb0 s k).num x=if x∈s.opn.drop k then Za5 else s.num x:=
 ZdH Za5 0 _ _ x (by rw[b.mlen];exact a)
theorem ZjV {n:Nat}{s:Grp}(b:s.loop.length=n)(k x:Nat)(a:x<n):(Zb0 s k).flag x=if x∈s.opn.drop k then decide (1<(s.opn.drop k).length)else s.flag x:=
 ZdH _ false _ _ x (by rw[b];exact a)
theorem ZfS {n:Nat}{s:Grp}(d:GI n s){c:Nat}(a:c<n)(x:Nat):(Za0 s c).num x=if x=c then s.cnt+1 else s.num x:=by
 show(s.met.set c (s.cnt+1)).getD x 0=_;rw[Yap];split
 ·rename_i e;subst e;rw[Ybx (by rw[d.mlen];exact a)];rfl
 ·rename_i e;rw[Ybw (fun b=>e b.symm),←Yap]
theorem TJ.enter {es:List Ent}{n:Nat}{z:List Nat}{s:Grp}(k:TJ es n z s)(w:n<=1048576){c:Nat}(t:c<n)(l:s.num c=0):TJ es n (c::z) (Za0 s c)/\TX es c s (Za0 s c):=by
 have m:=(k.gi.enter w t l).1;have b:=ZfS k.gi t;have D:c ∉ s.opn:=fun u=>((k.opn c).1 u).1 l;have F:=m.cnt;have G:s.cnt+1<=1048576:=by have:(Za0 s c).cnt=s.cnt+1:=rfl;omega
 have f:∀x,x∈(Za0 s c).opn↔x∈s.opn\/x=c:=fun x=>by
  show x∈s.opn++[c]↔_;simp
 have h:∀x∈s.opn,(Za0 s c).num x=s.num x:=fun x a=>by
  rw[b,Yar (show ¬x=c from fun e=>D (e▸a))]
 refine⟨⟨m,k.llen,fun x=>?_,fun x a=>?_,?_,fun x a d q=>?_,fun x a i d q=>?_,fun x a=>?_,fun x a=>?_,fun g m=>?_⟩,⟨fun x a=>?_,⟨[c],rfl,fun x a=>?_⟩,Nat.le_succ _,fun x a i=>?_,by have:=(k.gi.enter w t l).2.1;omega⟩⟩
 ·rw[f,b];by_cases e:x=c
  ·subst e;rw[Yay rfl];constructor
   ·intro _;exact⟨by omega,by show s.cnt+1≠9223372036854775807;omega⟩
   ·intro _;exact .inr rfl
  ·rw[Yar e,←k.opn x];exact⟨fun u=>u.resolve_right e,.inl⟩
 ·show(Za0 s c).num x<=s.cnt+1;rcases(f x).1 a with j|j
  ·rw[h x j];have:=k.le x j;omega
  ·subst j;rw[b,Yay rfl];exact Yad _
 ·show(s.opn++[c]).Pairwise _;rw[List.pairwise_append];refine⟨?_,List.pairwise_singleton _ _,fun x a H r=>?_⟩
  ·refine k.ord.imp_of_mem (fun a r A=>?_);rw[h _ a,h _ r];exact A
  ·rw[Yax.1 r,h x a,b,Yay rfl];have:=k.le x a;omega
 ·rw[b]at a⊢;by_cases e:x=c
  ·rw[Yay e]at a;exfalso;have:Za5=9223372036854775807:=rfl;omega
  ·rw[Yar e]at a;have:=k.closed x a d q;rw[Yar (fun u=>?_)]
   ·exact this
   ·subst u;rw[this]at l;cases l
 ·have C:x∈s.opn:=((f x).1 a).resolve_right (fun e=>i (e▸Yam));have:=k.black x C (fun u=>i (Yau c u)) d q;rw[b];split
  ·omega
  ·exact this
 ·rcases(f x).1 a with j|j
  ·obtain⟨g,y,p,B,v⟩:=k.grey x j;exact⟨g,Yau c y,(f g).2 (.inl p),by rw[h g p,h x j];exact B,v⟩
  ·subst j;exact⟨x,Yam,a,Yad _,.refl _⟩
 ·have E:s.num x=Za5:=by
   rw[b]at a;by_cases e:x=c
   ·rw[Yay e]at a;exfalso;have:Za5=9223372036854775807:=rfl;omega
   ·rw[Yar e]at a;exact a
  exact k.flags x E
 ·rcases Yai.1 m with e|e
  ·exact(f g).2 (.inr e)
  ·exact(f g).2 (.inl (k.gsub g e))
 ·rw[b,Yar (show ¬x=c from fun e=>a (e▸l))]
 ·rw[Yax.1 a,b,Yay rfl];exact Nat.lt_succ_self _
 ·rw[b]at i;by_cases e:x=c
  ·subst e;exact .refl _
  ·rw[Yar e]at i;exact absurd a i
structure TF (es:List Ent) (n:Nat) (gs:List Nat) (c:Nat) (s:Grp) (ds:List Nat) (t:Grp×Nat):Prop where
 tj:TJ es n (c::gs) t.1
 tx:TX es c (Za0 s c) t.1
 low:t.2=s.cnt+1\/t.2<s.cnt+1/\∃y∈s.opn,s.num y=t.2/\Up es c y
 edge:∀x∈t.1.opn,s.cnt+1<t.1.num x->∀d∈parE es x,d∈t.1.opn->t.2<=t.1.num d
 own:∀d∈ds,t.1.num d≠0/\(d∈t.1.opn->t.2<=t.1.num d)
 pos:0<t.2
theorem TF.step {es:List Ent}{n:Nat}{D:List Nat}{c:Nat}{s:Grp}{Z:List Nat}{t:Grp×Nat}(m:Grp->Nat->Grp×Nat)(z:TJ es n D s)(am:n<=1048576)(ah:c<n)(ab:s.num c=0)(h:TF es n D c s Z t){d:Nat}(F:d∈parE es c)
  (ac:t.1.num d=0->TM es n (c::D) d t.1 (m t.1 d).1 (m t.1 d).2):TF es n D c s (Z++[d]) (ZbL m t d):=by
 have b:=ZfS z.gi ah;have aa:c ∉ s.opn:=fun p=>((z.opn c).1 p).1 ab;have f:∀x∈s.opn,(Za0 s c).num x=s.num x:=fun x l=>by
  rw[b,Yar (show ¬x=c from fun e=>aa (e▸l))]
 have u:∀x∈s.opn,s.num x≠0:=fun x l=>((z.opn x).1 l).1;have j:(Za0 s c).cnt=s.cnt+1:=rfl;have X:=h.tx.cnt;unfold ZbL;by_cases A:t.1.met.getD d 0=0
 ·rw[Yay A];obtain⟨L,y,af,ad,U,ag,al⟩:=ac A;refine⟨L,h.tx.trans (y.mono (.one F)),?_,fun x l w e g r=>?_,fun e g=>?_,?_⟩
  ·dsimp only;rcases U with e|⟨R,q,W,G,T⟩
   ·have M:min t.2 (m t.1 d).2=t.2:=by
     rcases h.low with p|⟨p,_⟩<;>omega
    rw[M];exact h.low
   ·by_cases v:t.2<=(m t.1 d).2
    ·rw[Ybe v];exact h.low
    ·rw[Nat.min_eq_right (by omega)];rcases h.low with p|⟨p,_⟩
     ·have B:q∈(Za0 s c).opn:=h.tx.old W (by rw[j];omega);have a:q∈s.opn:=by
       rcases Yaq.1 (show q∈s.opn++[c]from B)with k|k
       ·exact k
       ·exfalso;rw[Yax.1 k]at G;have i:=h.tx.same c (by rw[b,Yay rfl];omega);rw[b,Yay rfl]at i;omega
      refine .inr ⟨by omega,q,a,?_,(Up.one F).trans T⟩;rw[←G,h.tx.same q (by rw[f q a];exact u q a),f q a]
     ·have B:q∈(Za0 s c).opn:=h.tx.old W (by rw[j];omega);have a:q∈s.opn:=by
       rcases Yaq.1 (show q∈s.opn++[c]from B)with k|k
       ·exact k
       ·exfalso;rw[Yax.1 k]at G;have i:=h.tx.same c (by rw[b,Yay rfl];omega);rw[b,Yay rfl]at i;omega
      refine .inr ⟨by omega,q,a,?_,(Up.one F).trans T⟩;rw[←G,h.tx.same q (by rw[f q a];exact u q a),f q a]
  ·dsimp only at l w r⊢;by_cases K:t.1.cnt<(m t.1 d).1.num x
   ·have:=ag x l K e g r;omega
   ·have E:=y.old l (by omega);have Y:=(((h.tj.opn x).1 E).1);have Q:=y.same x Y;have P:e∈t.1.opn:=by
     have aj:x ∉ D\/True:=.inr trivial;have I:t.1.num e≠0:=by
      refine h.tj.black x E (fun p=>?_) e g;rcases Yai.1 p with p|p
      ·have i:=h.tx.same c (by rw[b,Yay rfl];omega);rw[b,Yay rfl,←p]at i;omega
      ·have H:=z.gsub x p;have i:=h.tx.same x (by rw[f x H];exact u x H);rw[f x H]at i;have:=z.le x H;omega
     rw[h.tj.opn];refine⟨I,?_⟩;rw[←y.same e I];exact((L.opn e).1 r).2
    have i:=h.edge x E (by rw[←Q];exact w) e g P;rw[y.same e ((h.tj.opn e).1 P).1];omega
  ·dsimp only;rcases Yaq.1 g with g|g
   ·obtain⟨C,J⟩:=h.own e g;have N:=y.same e C;refine⟨by rw[N];exact C,fun p=>?_⟩;have i:=J (by rw[h.tj.opn];refine⟨C,?_⟩;rw[←N];exact((L.opn e).1 p).2);rw[N];omega
   ·rw[Yax.1 g];refine⟨af,fun p=>?_⟩;have i:=ad p;rcases U with R|⟨R,_⟩<;>omega
  ·dsimp only;have:=h.pos;omega
 ·rw[Yar A];have O:min t.2 (t.1.num d)=s.cnt+1\/min t.2 (t.1.num d)<s.cnt+1/\∃q∈s.opn,s.num q=min t.2 (t.1.num d)/\Up es c q:=by
   by_cases v:t.2<=t.1.num d
   ·rw[Ybe v];exact h.low
   ·have ai:t.2<=s.cnt+1:=by rcases h.low with p|⟨p,_⟩<;>omega
    have V:d∈t.1.opn:=(h.tj.opn d).2 ⟨A,by have ak:Za5=9223372036854775807:=rfl;have ao:=h.tj.gi.cnt;rw[j]at X;omega⟩;have B:d∈(Za0 s c).opn:=h.tx.old V (by rw[j];omega);have a:d∈s.opn:=by
     rcases Yaq.1 (show d∈s.opn++[c]from B)with k|k
     ·exact k
     ·exfalso;have ae:=Yax.1 k;have i:=h.tx.same c (by rw[b,Yay rfl];omega);rw[b,Yay rfl]at i;rw[ae]at v;omega
    rw[Nat.min_eq_right (by omega)];refine .inr ⟨by omega,d,a,?_,.one F⟩;rw[h.tx.same d (by rw[f d a];exact u d a),f d a]
  refine⟨h.tj,h.tx,O,fun x l w e g r=>?_,fun e g=>?_,?_⟩
  ·have:=h.edge x l w e g r;dsimp only;omega
  ·dsimp only;rcases Yaq.1 g with g|g
   ·obtain⟨C,J⟩:=h.own e g;refine⟨C,fun p=>?_⟩;have:=J p;omega
   ·rw[Yax.1 g];exact⟨A,fun _=>Nat.min_le_right _ _⟩
  ·have i:=h.pos;dsimp only;omega

theorem TF.leave {es:List Ent}{n:Nat}{ai:List Nat}{c:Nat}{s:Grp}{t:Grp×Nat}(p:TJ es n ai s)(aG:n<=1048576)(ay:c<n)(am:s.num c=0)(W:c ∉ parE es c)(u:TF es n ai c s (parE es c) t):TM es n ai c s (Zem s t).1 (Zem s t).2:=by
 have O:=ZfS p.gi ay;have aA:c ∉ s.opn:=fun k=>((p.opn c).1 k).1 am;have y:TX es c s t.1:=(p.enter aG ay am).2.trans u.tx;have ak:∀x∈s.opn,s.num x≠0:=fun x f=>((p.opn x).1 f).1;have w:∀x∈s.opn,t.1.num x=s.num x:=fun x f=>y.same x (ak x f);have U:t.1.num c=s.cnt+1:=by
  have q:=u.tx.same c (by rw[O,Yay rfl];omega);rw[O,Yay rfl]at q;exact q
 obtain⟨l,aM,au⟩:=u.tx.tail;have A:t.1.opn=s.opn++(c::l):=by
  rw[aM];show(s.opn++[c])++l=_;simp
 have F:∀x∈l,s.cnt+1<t.1.num x:=au;have aB:∀x∈c::l,s.cnt+1<=t.1.num x:=fun x f=>by
  rcases Yai.1 f with e|e
  ·rw[e,U];exact Yad _
  ·have:=F x e;omega
 have B:∀x∈c::l,x∈t.1.opn:=fun x f=>by rw[A];exact Ya3 _ f
 have aa:∀x∈t.1.opn,s.cnt<t.1.num x->x∈c::l:=fun x f C=>by
  rw[A]at f;rcases Yaq.1 f with k|k
  ·have:=w x k;have:=p.le x k;omega
  ·exact k
 have av:c∈t.1.opn:=B c Yam;unfold Zem;by_cases V:t.2=s.cnt+1
 ·rw[Yay V];have M:t.1.opn.drop s.opn.length=c::l:=by rw[A];simp
  have Y:t.1.opn.take s.opn.length=s.opn:=by rw[A];simp
  have K:∀x∈c::l,x ∉ s.opn:=fun x f k=>by
   have q:=aB x f;have R:=w x k;have aP:=p.le x k;omega
  have ah:∀x∈c::l,Up es c x:=fun x f=>by
   rcases Yai.1 f with e|e
   ·rw[e];exact .refl _
   ·by_cases ad:s.num x=0
    ·exact y.from_ x ad (by have:=F x e;omega)
    ·exfalso;have q:=y.same x ad;have R:=(u.tj.opn x).1 (B x f);exact K x f ((p.opn x).2 ⟨ad,by rw[←q];exact R.2⟩)
  have aj:∀x∈c::l,∀d∈parE es x,d∈c::l\/t.1.num d=Za5:=fun x f d h=>by
   have Z:t.1.num d≠0/\(d∈t.1.opn->t.2<=t.1.num d):=by
    rcases Yai.1 f with e|e
    ·rw[e]at h;exact u.own d h
    ·have C:=F x e;refine⟨u.tj.black x (B x f) (fun k=>?_) d h,fun k=>u.edge x (B x f) C d h k⟩;rcases Yai.1 k with k|k
     ·rw[k]at C;omega
     ·have R:=p.gsub x k;have:=w x R;have:=p.le x R;omega
   by_cases ac:t.1.num d=Za5
   ·exact .inr ac
   ·have G:=(u.tj.opn d).2 ⟨Z.1,ac⟩;exact .inl (aa d G (by have:=Z.2 G;omega))
  have aD:∀x d,(x∈c::l\/t.1.num x=Za5)->d∈parE es x->(d∈c::l\/t.1.num d=Za5):=fun x d f h=>by
   rcases f with f|f
   ·exact aj x f d h
   ·exact .inr (u.tj.closed x f d h)
  have az:∀x∈c::l,Up es x c:=fun x f=>by
   obtain⟨g,Q,N,X,I⟩:=u.tj.grey x (B x f);have q:=I.inv aD (.inl f);rcases Yai.1 Q with e|e
   ·rw[←e];exact I
   ·exfalso;have ap:=p.gsub g e;rcases q with q|q
    ·exact K g q ap
    ·exact((u.tj.opn g).1 N).2 q
  have L:=u.tj.gi.finish s.opn.length (by rw[A];simp);have C:∀x∈c::l,x<n:=fun x f=>u.tj.gi.opn x (B x f);have m:∀x,(Zb0 t.1 s.opn.length).num x=if x∈c::l then Za5 else t.1.num x:=fun x=>by
   rcases YaC x n with f|f
   ·rw[Zmc u.tj.gi _ x f,M]
   ·rw[Zka L.1 f,Yar (fun k=>by have:=C x k;omega),Zka u.tj.gi f]
  have i:(Zb0 t.1 s.opn.length).opn=s.opn:=Y;have v:∀x∈s.opn,(Zb0 t.1 s.opn.length).num x=s.num x:=fun x f=>by
   rw[m,Yar (fun k=>K x k f),w x f]
  have H:∀x,t.1.num x=Za5->(Zb0 t.1 s.opn.length).num x=Za5:=fun x f=>by
   rw[m];split
   ·rfl
   ·exact f
  refine⟨⟨L.1,?_,fun x=>?_,fun x f=>?_,?_,fun x f d h=>?_,fun x f r d h=>?_,fun x f=>?_,fun x f=>?_,fun g ag=>?_⟩,⟨fun x f=>?_,⟨[],by dsimp only;rw[i];simp,fun x f=>(by cases f)⟩,y.cnt,fun x f r=>?_,Yaj L.2.1 y.left⟩,?_,fun k=>?_,.inl V,fun x f r=>?_,u.pos⟩
  ·exact(Zfj _ _ _).trans u.tj.llen
  ·dsimp only;rw[i];constructor
   ·intro k;rw[v x k];exact(p.opn x).1 k
   ·rintro⟨E,T⟩;rw[m]at E T;by_cases f:x∈c::l
    ·rw[Yay f]at T;exact absurd rfl T
    ·rw[Yar f]at E T;have:=(u.tj.opn x).2 ⟨E,T⟩;rw[A]at this;exact(Yaq.1 this).resolve_right f
  ·dsimp only at f⊢;rw[i]at f;rw[v x f];exact Yaj (p.le x f) y.cnt
  ·dsimp only;rw[i];refine p.ord.imp_of_mem (fun f D aK=>?_);rw[v _ f,v _ D];exact aK
  ·dsimp only at f⊢;by_cases j:x∈c::l
   ·rcases aj x j d h with k|k
    ·rw[m,Yay k]
    ·exact H d k
   ·rw[m,Yar j]at f;exact H d (u.tj.closed x f d h)
  ·dsimp only at f⊢;rw[i]at f;have q:=p.black x f r d h;rw[m];split
   ·decide
   ·rw[y.same d q];exact q
  ·dsimp only at f⊢;rw[i]at f⊢;obtain⟨g,Q,N,X,I⟩:=p.grey x f;exact⟨g,Q,N,by rw[v g N,v x f];exact X,I⟩
  ·dsimp only at f⊢;have al:x<n:=Zsg L.1 (by rw[f];decide);rw[ZjV u.tj.llen _ x al,M];by_cases j:x∈c::l
   ·rw[Yay j];constructor
    ·intro k;have E:1<(c::l).length:=of_decide_eq_true k;have af:=u.tj.ord;rw[A,List.pairwise_append]at af;have ae:∀J∈l,J≠c:=fun J D e=>by have:=F J D;rw[e]at this;omega
     obtain⟨J,D,ar⟩:∃J∈c::l,J≠x:=by
      by_cases e:x=c
      ·cases l with
       |nil=>simp at E
       |cons z l=>exact⟨z,by simp,fun k=>ae z (by simp) (k.trans e)⟩
      ·exact⟨c,Yam,fun k=>e k.symm⟩
     have aN:Up es x J:=(az x j).trans (ah J D);have aH:Up es J x:=(az J D).trans (ah x j);rcases aN.over with e|e
     ·exact absurd e.symm ar
     ·exact e.then aH
    ·intro k;refine Yas ?_;cases l with
     |cons z l=>simp
     |nil=>
      exfalso;have e:x=c:=by simpa using j
      subst e;obtain⟨d,h,aJ⟩:=k;rcases aj x j d h with E|E
      ·have aF:d=x:=by simpa using E
       exact W (aF▸h)
      ·have q:t.1.num x=Za5:=aJ.inv (P:=fun J=>t.1.num J=Za5) (fun a b aL aC=>u.tj.closed a aL b aC) E;exact((u.tj.opn x).1 av).2 q
   ·rw[Yar j];rw[m,Yar j]at f;exact u.tj.flags x f
  ·dsimp only;rw[i];exact p.gsub g ag
  ·dsimp only;have q:=y.same x f;rw[m,Yar (fun k=>?_),q];by_cases h:s.num x=Za5
   ·rw[h]at q;exact((u.tj.opn x).1 (B x k)).2 q
   ·exact K x k ((p.opn x).2 ⟨f,h⟩)
  ·dsimp only at r;rw[m]at r;by_cases j:x∈c::l
   ·exact ah x j
   ·rw[Yar j]at r;exact y.from_ x f r
  ·dsimp only;rw[m,Yay Yam];decide
  ·dsimp only at k;rw[i]at k;exact absurd k aA
  ·dsimp only at f r;rw[i]at f;rw[v x f]at r;have:=p.le x f;omega
 ·rw[Yar V];obtain⟨ax,J,D,aq,ab⟩:=u.low.resolve_left V;refine⟨⟨u.tj.gi,u.tj.llen,u.tj.opn,u.tj.le,u.tj.ord,u.tj.closed,fun x f r d h=>?_,fun x f=>?_,u.tj.flags,fun g ag=>y.mem (p.gsub g ag)⟩,y,by rw[U];omega,fun _=>U,.inr ⟨ax,J,D,aq,ab⟩,fun x f r d h G=>?_,u.pos⟩
  ·by_cases e:x=c
   ·rw[e]at h;exact(u.own d h).1
   ·exact u.tj.black x f (fun k=>(Yai.1 k).elim e r) d h
  ·obtain⟨g,Q,N,X,I⟩:=u.tj.grey x f;rcases Yai.1 Q with e|e
   ·subst e;obtain⟨ao,aE,aw,aO,aI⟩:=p.grey J D;refine⟨ao,aE,y.mem aw,?_,I.trans (ab.trans aI)⟩;rw[w ao aw];omega
   ·exact⟨g,e,N,X,I⟩
  ·by_cases C:s.cnt+1<t.1.num x
   ·exact u.edge x f C d h G
   ·have j:=aa x f r;have e:x=c:=by
     rcases Yai.1 j with e|e
     ·exact e
     ·have:=F x e;omega
    rw[e]at h;exact(u.own d h).2 G
theorem Zk0 {es:List Ent}{n:Nat}(j:n<=1048576)(m:∀c,∀d∈parE es c,d<n)(a:∀c,c ∉ parE es c):∀(f:Nat) (gs:List Nat) (s:Grp) (c:Nat),TJ es n gs s->c<n->s.num c=0->Za7 s.met<=f->TM es n gs c s (ZaW es f s c).1 (ZaW es f s c).2
 |0,gs,s,c,r,g,b,A=>absurd b (ZgX (by rw[r.gi.mlen];exact g) (by omega))
 |f+1,gs,s,c,r,g,b,A=>by
  have B:=Zk0 j m a f;obtain⟨u,D⟩:=r.enter j g b;have C:=(r.gi.enter j g b).2.1;have p:∀(l h:List Nat) (t:Grp×Nat),(∀d∈l,d∈parE es c)->TF es n gs c s h t->TF es n gs c s (h++l) (l.foldl (ZbL (ZaW es f)) t):=by
   intro l;induction l with
   |nil=>intro h t _ k;rw[YaN];exact k
   |cons d l y=>
    intro h t i k;rw[YaM,show h++d::l=(h++[d])++l by simp];refine y _ _ (fun x q=>i x (Yau d q)) (k.step (ZaW es f) r j g b (i d Yam) (fun z=>?_));refine B (c::gs) t.1 d k.tj (m c d (i d Yam)) z ?_;have:=k.tx.left;omega
  have start:TF es n gs c s [] (Za0 s c,s.cnt+1):=by
   refine⟨u,.refl _ _ _,.inl rfl,fun x q w=>?_,fun d i=>(by cases i),Nat.succ_pos _⟩;have:=u.le x q;have E:(Za0 s c).cnt=s.cnt+1:=rfl;dsimp only at w;omega
  have v:=p (parE es c) [] _ (fun _ F=>F) start;rw[Ybq]at v;exact v.leave r j g b (a c)
theorem Zl4 {es:List Ent}{n:Nat}(r:n<=1048576)(l:∀c,∀d∈parE es c,d<n)(h:∀c,c ∉ parE es c):∀k,k<=n->
  TJ es n [] ((List.range k).foldl (fun s c=>if s.met.getD c 0=0 then(ZaW es n s c).1 else s) ⟨List.replicate n 0,0,[],List.replicate n false⟩)/\∀x,x<k->((List.range k).foldl (fun s c=>if s.met.getD c 0=0 then(ZaW es n s c).1 else s) ⟨List.replicate n 0,0,[],List.replicate n false⟩:Grp).num x≠0:=by
 intro k;induction k with
 |zero=>
  intro _;have b:∀x,(List.replicate n 0).getD x 0=0:=fun x=>by
   rw[Yap,Ycq];split<;>rfl
  refine⟨⟨⟨by simp,fun c m=>(by cases m),?_,?_,fun z b=>?_⟩,by simp,fun x=>?_,fun x a=>(by cases a),.nil,fun x a=>?_,fun x a=>(by cases a),fun x a=>(by cases a),fun x a=>?_,fun g p=>(by cases p)⟩,fun x a=>absurd a (YbN _)⟩
  ·have:=ZdY (List.replicate n 0);rw[Ybm]at this;show 0+Za7 (List.replicate n 0)<=n;omega
  ·have:=ZdY (List.replicate n 0);rw[Ybm]at this;show 0+Za7 (List.replicate n 0)<=n;omega
  ·rw[(Ybt.1 b).2];exact Yao _
  ·constructor
   ·intro q;cases q
   ·rintro⟨q,_⟩;exact absurd (b x) q
  ·rw[show Grp.num _ x=0 from b x]at a;cases a
  ·rw[show Grp.num _ x=0 from b x]at a;cases a
 |succ k t=>
  intro u;obtain⟨f,j⟩:=t (by omega);rw[YbU,Ybc,YaM,List.foldl_nil];generalize (List.range k).foldl (fun s c=>if s.met.getD c 0=0 then(ZaW es n s c).1 else s) ⟨List.replicate n 0,0,[],List.replicate n false⟩=s at f j⊢;by_cases b:s.met.getD k 0=0
  ·rw[Yay b];have i:=Zk0 r l h n [] s k f (by omega) b (by have:=ZdY s.met;rw[f.gi.mlen]at this;exact this);refine⟨i.tj,fun x a=>?_⟩;by_cases e:x=k
   ·rw[e];exact i.met
   ·have:=j x (by omega);rw[i.tx.same x this];exact this
  ·rw[Yar b];refine⟨f,fun x a=>?_⟩;by_cases e:x=k
   ·rw[e];exact b
   ·exact j x (by omega)
theorem Zd0 {es:List Ent}{n:Nat}(l:n<=1048576)(f:∀c,∀d∈parE es c,d<n)(b:∀c,c ∉ parE es c):(ZaI es n).loop.length=n/\∀x,x<n->((ZaI es n).loop.getD x false=true↔Over es x x):=by
 obtain⟨a,k⟩:=Zl4 l f b n (Yad _);refine⟨a.llen,fun x i=>a.flags x ?_⟩;rcases YaC 0 0 with p|_
 ·omega
 ·by_cases h:Grp.num (ZaI es n) x=Za5
  ·exact h
  ·exfalso;have m:=(a.opn x).2 ⟨k x i,h⟩;obtain⟨g,j,_⟩:=a.grey x m;cases j
def Acyc (es:List Ent):Prop:=∀x,¬Over es x x
def Zdi (es:List Ent):Prop:=∀c,∀d∈parE es c,d<es.length
theorem Zhv {n:Nat}{V:List Nat}(d:V.Nodup)(a:∀v∈V,v<n)(h:n<=V.length){i:Nat}(f:i<n):i∈V:=by
 refine Decidable.byContradiction fun g=>?_;have b:=ZcW n (i::V) (Ycv.2 ⟨g,d⟩) (fun x c=>by
  rcases Yai.1 c with e|e
  ·exact e▸f
  ·exact a x e)
 rw[YaI]at b;omega
theorem Zl3 (es:List Ent)(f:Nat):Zf8 es f none=[]:=by cases f<;>rfl
theorem ZbQ {es:List Ent}{i c:Nat}{e:Ent}(a:es[i]?=some e)(b:e.up=some c):c∈parE es i:=by
 rw[ZcY a];unfold Ent.par;rw[b];simp
theorem ZcG {es:List Ent}{i c:Nat}{e:Ent}(a:es[i]?=some e)(b:c∈e.lk):c∈parE es i:=by
 rw[ZcY a];unfold Ent.par;exact Ya3 _ b
theorem Over.snoc {es:List Ent}{x b d:Nat}(c:Over es x b)(a:d∈parE es b):Over es x d:=c.then (.one a)
theorem Over.one {es:List Ent}{x d:Nat}(a:d∈parE es x):Over es x d:=⟨d,a,.refl _⟩
theorem ZgK {es:List Ent}(d:Acyc es)(m:Zdi es):∀(f:Nat) (V:List Nat) (i:Nat),(∀v∈V,Over es v i)->V.Nodup->(∀v∈V,v<es.length)->es.length<=V.length+f->i<es.length->ZdA es (Zf8 es f (some i)) (some i)
 |0,V,i,a,j,g,p,c=>absurd (a i (Zhv j g (by omega) c)) (d i)
 |f+1,V,i,a,j,g,p,c=>by
  obtain⟨e,l⟩:∃e,es[i]?=some e:=⟨_,Yaa c⟩
  have q:Zf8 es (f+1) (some i)=i::Zf8 es f e.up:=by
   show(match es[i]? with|some e=>i::Zf8 es f e.up|none=>[])=_;rw[l]
  rw[q];refine⟨rfl,e,l,?_⟩;cases n:e.up with
  |none=>rw[Zl3];exact rfl
  |some r=>
   have k:=ZbQ l n;refine ZgK d m f (i::V) r (fun v h=>?_) (Ycv.2 ⟨fun b=>d i (a i b),j⟩) (fun v h=>?_) (by rw[YaI];omega) (m i r k)
   ·rcases Yai.1 h with b|b
    ·rw[b];exact .one k
    ·exact(a v b).snoc k
   ·rcases Yai.1 h with b|b
    ·rw[b];exact c
    ·exact g v b
theorem Zip {es:List Ent}(i:Acyc es)(q:Zdi es):∀(f:Nat) (V l:List Nat),(∀v∈V,∀d∈l,Over es v d)->V.Nodup->(∀v∈V,v<es.length)->es.length<=V.length+f->(∀d∈l,d<es.length)->Deep es f l
 |0,V,l,a,p,k,r,n=>by
  cases l with
  |nil=>exact rfl
  |cons d l=>exact absurd (a d (Zhv p k (by omega) (n d Yam)) d Yam) (i d)
 |f+1,V,l,a,p,k,r,n=>fun d j=>by
  have h:=n d j;obtain⟨e,g⟩:∃e,es[d]?=some e:=⟨_,Yaa h⟩
  refine⟨e,g,Zip i q f (d::V) e.lk (fun v m x b=>?_) (Ycv.2 ⟨fun c=>i d (a d c d j),p⟩) (fun v m=>?_) (by rw[YaI];omega) (fun x b=>q d x (ZcG g b))⟩
  ·rcases Yai.1 m with c|c
   ·rw[c];exact .one (ZcG g b)
   ·exact(a v c d j).snoc (ZcG g b)
  ·rcases Yai.1 m with c|c
   ·rw[c];exact h
   ·exact k v c
theorem Acyc.shape {es:List Ent}(c:Acyc es)(b:Zdi es)(f:es.length<=1048576)(j:∀(i:Nat) (e:Ent),es[i]?=some e->e.lk.length<=9223372036854775807)(g:∀(i:Nat) (e:Ent),es[i]?=some e->e.cls.flds.length<=32)(k:∀(i:Nat) (e:Ent),es[i]?=some e->e.cls.name.length<=32):Shape es:=
 ⟨f,j,g,k,fun i m=>ZgK c b es.length [] i (fun v a=>by cases a) .nil (fun v a=>by cases a) (by simp) m,
  fun i e l=>Zip c b es.length [] e.lk (fun v a=>by cases a) .nil (fun v a=>by cases a) (by simp) (fun d h=>b i d (ZcG l h))⟩
inductive Lup (es:List Ent):Nat->Nat->Prop
 |refl (x:Nat):Lup es x x
 |step {x d y:Nat}:d∈lkOf es x->Lup es d y->Lup es x y
theorem Lup.trans {es:List Ent}{x c z:Nat}(d:Lup es x c)(k:Lup es c z):Lup es x z:=by
 induction d with
 |refl=>exact k
 |step b _ a=>exact .step b (a k)
theorem Lup.inv {es:List Ent}{P:Nat->Prop}(f:∀x d,P x->d∈lkOf es x->P d){x g:Nat}(h:Lup es x g)(a:P x):P g:=by
 induction h with
 |refl=>exact a
 |step b _ c=>exact c (f _ _ a b)
theorem Zjs (es:List Ent)(f:Nat)(a l:List Nat):vis es (f+1) a l=l.foldl (ZbC es f a) []:=rfl
theorem Zd4 (es:List Ent):∀(f:Nat) (M l:List Nat),∀x∈vis es f M l,∃d∈l,Lup es d x
 |0,M,l,x,a=>by cases a
 |f+1,M,l,x,a=>by
  have n:=Zd4 es f;have k:∀(l b:List Nat),∀x∈l.foldl (ZbC es f M) b,x∈b\/∃d∈l,Lup es d x:=by
   intro l;induction l with
   |nil=>intro b x a;exact .inl a
   |cons d l m=>
    intro b x a;rw[YaM]at a;rcases m _ x a with c|⟨e,j,g⟩
    ·unfold ZbC at c;split at c
     ·exact .inl c
     ·rcases Yaq.1 c with i|i
      ·exact .inl i
      ·rcases Yai.1 i with h|h
       ·exact .inr ⟨d,Yam,h▸.refl _⟩
       ·obtain⟨e,j,g⟩:=n _ _ x h;exact .inr ⟨d,Yam,.step j g⟩
    ·exact .inr ⟨e,Yau d j,g⟩
  rcases k l [] x (by rw[←Zjs];exact a)with p|p
  ·cases p
  ·exact p
theorem Zfd {es:List Ent}:∀(f:Nat) (M l:List Nat),Deep es f l->(∀d∈l,d∈M++vis es f M l)/\∀x∈vis es f M l,∀d∈lkOf es x,d∈M++vis es f M l
 |0,M,l,C=>by
  obtain rfl:l=[]:=C;exact⟨fun d m=>by(cases m),fun x b=>by(cases b)⟩
 |f+1,M,l,C=>by
  have E:=fun M l=>Zfd (es:=es) f M l;have p:∀(l a:List Nat),(∀d∈l,∃e,es[d]?=some e/\Deep es f e.lk)->(∀x∈a,∀d∈lkOf es x,d∈M++a)->
    (∀d∈l,d∈M++l.foldl (ZbC es f M) a)/\∀x∈l.foldl (ZbC es f M) a,∀d∈lkOf es x,d∈M++l.foldl (ZbC es f M) a:=by
   intro l;induction l with
   |nil=>intro a _ j;exact⟨fun d m=>by(cases m),j⟩
   |cons d l u=>
    intro a r j;rw[YaM];obtain⟨e,B,t⟩:=r d Yam;have n:∀x∈ZbC es f M a d,∀k∈lkOf es x,k∈M++ZbC es f M a d:=by
     intro x b k h;by_cases g:(M++a).contains d=true
     ·have c:ZbC es f M a d=a:=by unfold ZbC;rw[Yay g]
      rw[c]at b⊢;exact j x b k h
     ·have c:ZbC es f M a d=a++d::vis es f (M++a++[d]) (lkOf es d):=by unfold ZbC;rw[Yar g]
      rw[c]at b⊢;obtain⟨D,y⟩:=E (M++a++[d]) (lkOf es d) (by rw[Zbm B];exact t);have i:∀z,z∈M++a++[d]++vis es f (M++a++[d]) (lkOf es d)->z∈M++(a++d::vis es f (M++a++[d]) (lkOf es d)):=fun z w=>by
       simpa[YaY]using w
      rcases Yaq.1 b with b|b
      ·have:=j x b k h;rcases Yaq.1 this with q|q
       ·exact Yba _ q
       ·exact Ya3 _ (Yba _ q)
      ·rcases Yai.1 b with b|b
       ·rw[b]at h;exact i k (D k h)
       ·exact i k (y x b k h)
    obtain⟨A,F⟩:=u (ZbC es f M a d) (fun x b=>r x (Yau d b)) n;refine⟨fun x b=>?_,F⟩;rcases Yai.1 b with v|b
    ·have s:x∈M++ZbC es f M a d:=by
      rw[v];by_cases g:(M++a).contains d=true
      ·have c:ZbC es f M a d=a:=by unfold ZbC;rw[Yay g]
       rw[c];exact YbS.1 g
      ·have c:ZbC es f M a d=a++d::vis es f (M++a++[d]) (lkOf es d):=by unfold ZbC;rw[Yar g]
       rw[c];simp
     rcases Yaq.1 s with q|q
     ·exact Yba _ q
     ·exact Ya3 _ ((ZeH es f M l _).subset q)
    ·exact A x b
  exact p l [] C (fun x b=>by(cases b))
theorem Zhx {es:List Ent}{f:Nat}{L:List Nat}(E:∀d∈L,∃e,es[d]?=some e/\Deep es f e.lk)(x:Nat):x∈ifsL es f L↔∃d∈L,∃k∈lkOf es d,Lup es k x:=by
 have l:∀(L c:List Nat),(∀d∈L,∃e,es[d]?=some e/\Deep es f e.lk)->(∀x∈c,∀d∈lkOf es x,d∈c)->
   (∀x,x∈L.foldl (fun c d=>c++vis es f c (lkOf es d)) c↔x∈c\/∃d∈L,∃k∈lkOf es d,Lup es k x):=by
  intro L;induction L with
  |nil=>intro c _ _ x;simp
  |cons d L A=>
   intro c r y x;rw[YaM];obtain⟨e,v,s⟩:=r d Yam;obtain⟨D,B⟩:=Zfd f c (lkOf es d) (by rw[Zbm v];exact s);have j:∀x∈c++vis es f c (lkOf es d),∀p∈lkOf es x,p∈c++vis es f c (lkOf es d):=fun x m p q=>by
    rcases Yaq.1 m with n|n
    ·exact Yba _ (y x n p q)
    ·exact B x n p q
   rw[A _ (fun z g=>r z (Yau d g)) j x];constructor
   ·rintro(w|⟨z,g,k,h,i⟩)
    ·rcases Yaq.1 w with n|n
     ·exact .inl n
     ·obtain⟨k,h,i⟩:=Zd4 es f c _ x n;exact .inr ⟨d,Yam,k,h,i⟩
    ·exact .inr ⟨z,Yau d g,k,h,i⟩
   ·rintro(w|⟨z,g,k,h,i⟩)
    ·exact .inl (Yba _ w)
    ·rcases Yai.1 g with u|g
     ·rw[u]at h;exact .inl (i.inv (P:=fun p=>p∈c++vis es f c (lkOf es d)) (fun a b C t=>j a C b t) (D k h))
     ·exact .inr ⟨z,g,k,h,i⟩
 unfold ifsL;rw[l L [] E (fun x m=>by(cases m)) x];simp
theorem Zp0 {es:List Ent}{f:Nat}{l:List Nat}(m:Deep es f l)(x:Nat):x∈vis es f [] l↔∃d∈l,Lup es d x:=by
 constructor
 ·exact Zd4 es f [] l x
 ·rintro⟨d,k,j⟩;obtain⟨c,g⟩:=Zfd f [] l m;simp only[Ybq]at c g;exact j.inv (P:=fun n=>n∈vis es f [] l) (fun a b h i=>g a h b i) (c d k)
end Go.Proofs.YtegljjbclladdaaGreatDoor
namespace Go.Proofs.YtegljjbclladdaaGreatDoor
open Go.Shelf Go.RowKit Go.Lib Tryz
def Zf4:Go.Shelf.Ren:=⟨fun|156=>205|165=>230|166=>231|169=>232|240=>241|241=>242|276=>250|277=>251|n=>n,fun|31=>22|9=>9|3=>3|4=>4|0=>0|20=>20|72=>197|76=>200|70=>195|37=>162|75=>199|127=>163|164=>212|5=>5|80=>128|n=>n,fun|n=>n⟩
theorem ZoK:Go.Proofs.Lays.n156 prog Zf4:={
 mixed:=by kernel_rfl
 f156:=func205.trans (Ya8 some (by kernel_rfl))
 f165:=func230.trans (Ya8 some (by kernel_rfl))
 f166:=func231.trans (Ya8 some (by kernel_rfl))
 f169:=func232.trans (Ya8 some (by kernel_rfl))
 f240:=func241.trans (Ya8 some (by kernel_rfl))
 f241:=func242.trans (Ya8 some (by kernel_rfl))
 f276:=func250.trans (Ya8 some (by kernel_rfl))
 f277:=func251.trans (Ya8 some (by kernel_rfl))
 t0:=underlying0
 a0:=Tryz.isAgg0
 z0:=Tryz.sizeOf0
 v0:=Tryz.zeroValue0
 t3:=underlying3
 a3:=Tryz.isAgg3
 z3:=Tryz.sizeOf3
 v3:=Tryz.zeroValue3
 t4:=underlying4
 a4:=Tryz.isAgg4
 z4:=Tryz.sizeOf4
 v4:=Tryz.zeroValue4
 t9:=underlying9
 a9:=Tryz.isAgg9
 z9:=Tryz.sizeOf9
 v9:=Tryz.zeroValue9
 t20:=underlying20
 a20:=Tryz.isAgg20
 z20:=Tryz.sizeOf20
 v20:=Tryz.zeroValue20
 t31:=underlying22
 a31:=Tryz.isAgg22
 z31:=Tryz.sizeOf22
 v31:=Tryz.zeroValue22
 t37:=underlying162
 a37:=Tryz.isAgg162
 z37:=Tryz.sizeOf162
 v37:=Tryz.zeroValue162
 t70:=underlying195
 a70:=Tryz.isAgg195
 z70:=Tryz.sizeOf195
 v70:=Tryz.zeroValue195
 t72:=underlying197
 a72:=Tryz.isAgg197
 z72:=Tryz.sizeOf197
 v72:=Tryz.zeroValue197
 t75:=underlying199
 a75:=Tryz.isAgg199
 z75:=Tryz.sizeOf199
 v75:=Tryz.zeroValue199
 t76:=underlying200
 a76:=Tryz.isAgg200
 z76:=Tryz.sizeOf200
 v76:=Tryz.zeroValue200
 t127:=underlying163
 a127:=Tryz.isAgg163
 z127:=Tryz.sizeOf163
 v127:=Tryz.zeroValue163
 t164:=underlying212
 a164:=Tryz.isAgg212
 z164:=Tryz.sizeOf212
 v164:=Tryz.zeroValue212 }
theorem Zdk:Builder.Extra prog Zf4:={
 sizeBuilder:=by kernel_rfl
 liesBuilder:=by kernel_rfl
 t5:=underlying5
 a5:=Tryz.isAgg5
 z5:=Tryz.sizeOf5
 v5:=Tryz.zeroValue5
 infoByte:=by kernel_rfl
 cellsByte:=by kernel_rfl
 sizeByte:=by kernel_rfl
 neB5:=by decide }
theorem strings_Join_none (a:Option Addr)(c:Nat)(b:ByteArray)(w:World) :
  Calls prog 205 #[.slice a 0 c,.string b] w fun e w'=>e=.returned (.string ⟨#[]⟩)/\w'=w:=Any.strings_Join_none ZoK Zdk a c b w
theorem strings_Join (d o c:Nat)(xs:List ByteArray)(a:ByteArray)(w:World)(b:∀(j:Nat) x,xs[j]?=some x->w.cell? ⟨d,o+j,none⟩=some (.string x))(h:d<w.heap.size)(i:xs.length<=140737488355328)(g:xs.length<=c)(f:(Lib.join (xs.map (·.data.toList)) a.data.toList).length<=140737488355328) :
  Calls prog 205 #[.slice (some ⟨d,o,none⟩) xs.length c,.string a] w fun e w'=>e=.returned (.string ⟨(Lib.join (xs.map (·.data.toList)) a.data.toList).toArray⟩)/\Below w.heap.size w w':=Any.strings_Join ZoK Zdk d o c xs a w b h i g f
end Go.Proofs.YtegljjbclladdaaGreatDoor
namespace Go.Proofs.YtegljjbclladdaaGreatDoor
open Go.RowKit Tryz
def nameCells:List Value:=opTab.map fun x=>.string (S x.1)
theorem Zi0 (k:Nat)(b:k<42):nameCells[k]?=some (.string (S (ZaB k))):=by
 have a:k<opTab.length:=by rw[ZcX];exact b
 rw[nameCells,Yav,Yaa a,Ze6 k a];rfl
theorem ZmT (w:World) :
  Calls prog 41 #[] w fun e w'=>e=.returned (.slice (some ⟨w.heap.size,0,none⟩) 42 42)/\w.alloc (.cells nameCells.toArray 9)=w':=by
 go_enter func41,ntmps41;go_wp2;go_ret;exact⟨rfl,Ya8 (fun a=>w.alloc (.cells a 9)) (by kernel_rfl)⟩
theorem Zma (w:World)(k:Nat)(a:k<42):(w.alloc (.cells nameCells.toArray 9)).cell? ⟨w.heap.size,k,none⟩=some (.string (S (ZaB k))):=by
 have c:=Zi0 k a;have b:=heap_alloc_new w (.cells nameCells.toArray 9);unfold World.cell?;rw[b];simpa using c
theorem ZhV (s:List UInt8)(w:World) :
  Calls prog 16 #[.string (S s)] w fun e w'=>e=.returned (.int .i64 (if idx s<42 then(idx s:Int)else -1))/\Below w.heap.size w w':=by
 obtain⟨c,d⟩:∃c,c=idx s:=⟨_,rfl⟩
 rw[←d];have g:∀r,r<c->(ZaB r==s)=false:=fun r z=>ZgV s r (by omega);have h:c<42->(ZaB c==s)=true:=fun A=>by rw[d];exact Zf1 s (by omega)
 have x:c<=42:=by rw[d];exact Zoe s
 have l:=Hd g;have q:=Hd h;clear g h d;go_enter func16,ntmps16
 go_wp2_with (go_at_call 41;refine(ZmT _).mono ?_;rintro e w'⟨rfl,rfl⟩)
 have b:Hid (∀k,k<42->(w.alloc (.cells nameCells.toArray 9)).cell? ⟨w.heap.size,k,none⟩=some (.string (S (ZaB k)))):=Hd (fun k n=>Zma w k n);have a:Below w.heap.size w (w.alloc (.cells nameCells.toArray 9)):=(Yab _ w).alloc (Yad _) _;generalize w.alloc (.cells nameCells.toArray 9)=t at b a⊢;have j:=Hd a;clear a;go_loopw [4] (fun i wr=>wr=t/\∃k:Nat,k<=c/\i=.int .i64 k) (fun i _=>42-(intOf i).toNat)
 case atStart=>exact⟨rfl,0,Yao _,rfl⟩
 case round=>
  obtain⟨rfl,k,n,rfl⟩:=hrel;by_cases f:k<42
  ·have u:(k:Int)<42:=by omega
   have v:(0:Int)<=k:=by omega
   have y:=b.o k f;have es:=Zaf s;have en:=Zaf (ZaB k);by_cases p:k<c
   ·have m:=l.o k p;go_wp2;go_roundw
    case rel=>exact⟨trivial,k+1,by omega,by go_num⟩
    case measure=>simp[intOf];omega
   ·obtain rfl:k=c:=by omega
    have m:=q.o f;go_wp2;go_ret;exact⟨rfl,j.o⟩
  ·obtain rfl:k=42:=by omega
   obtain rfl:c=42:=by omega
   go_wp2;go_ret;exact⟨rfl,j.o⟩
def refT (a:List UInt8):Int:=if idx a<42 then(if Zbz (idx a)=1 then 1 else if 2<=Zbz (idx a)then 2 else 0)else -1
def thirteen:List (List UInt8):=[[105,110,116],[108,111,97,100],[115,116,111,114,101],[106,117,109,112],[98,114,97,110,99,104],[119,111,114,100],[110,101,119],[103,101,116],[112,117,116],[99,97,108,108],[97,114,114,97,121],[105,115],[99,97,115,116]]
theorem Zpw:∀k:Fin 42,thirteen.contains (ZaB k.val)=false->Zbz k.val=0:=by decide
theorem Zpt (a:List UInt8)(f:thirteen.contains a=false):refT a=if idx a<42 then 0 else -1:=by
 unfold refT;by_cases b:idx a<42
 ·have e:=beq_iff_eq.1 (Zf1 a b);have d:=Zpw ⟨idx a,b⟩ (by show thirteen.contains (ZaB (idx a))=false;rw[e];exact f);have c:Zbz (idx a)=0:=d;rw[Yay b,Yay b,c];rfl
 ·rw[Yar b,Yar b]
theorem ZaM (a:List UInt8)(w:World) :
  Calls prog 8 #[.string (S a)] w fun e w'=>e=.returned (.int .i64 (refT a))/\Below w.heap.size w w':=by
 have es:=Zaf a;by_cases g:a=[105,110,116]
 ·subst g;rw[show refT [105,110,116]=1 from by decide];go_enter func8,ntmps8;go_wp2;go_ret;exact⟨rfl,Yab _ _⟩
 have A:(a==[105,110,116])=false:=by rw[Yah];exact g
 by_cases k:a=[108,111,97,100]
 ·subst k;rw[show refT [108,111,97,100]=1 from by decide];go_enter func8,ntmps8;go_wp2;go_ret;exact⟨rfl,Yab _ _⟩
 have z:(a==[108,111,97,100])=false:=by rw[Yah];exact k
 by_cases l:a=[115,116,111,114,101]
 ·subst l;rw[show refT [115,116,111,114,101]=1 from by decide];go_enter func8,ntmps8;go_wp2;go_ret;exact⟨rfl,Yab _ _⟩
 have C:(a==[115,116,111,114,101])=false:=by rw[Yah];exact l
 by_cases p:a=[106,117,109,112]
 ·subst p;rw[show refT [106,117,109,112]=1 from by decide];go_enter func8,ntmps8;go_wp2;go_ret;exact⟨rfl,Yab _ _⟩
 have F:(a==[106,117,109,112])=false:=by rw[Yah];exact p
 by_cases i:a=[98,114,97,110,99,104]
 ·subst i;rw[show refT [98,114,97,110,99,104]=1 from by decide];go_enter func8,ntmps8;go_wp2;go_ret;exact⟨rfl,Yab _ _⟩
 have G:(a==[98,114,97,110,99,104])=false:=by rw[Yah];exact i
 by_cases q:a=[119,111,114,100]
 ·subst q;rw[show refT [119,111,114,100]=2 from by decide];go_enter func8,ntmps8;go_wp2;go_ret;exact⟨rfl,Yab _ _⟩
 have D:(a==[119,111,114,100])=false:=by rw[Yah];exact q
 by_cases j:a=[110,101,119]
 ·subst j;rw[show refT [110,101,119]=2 from by decide];go_enter func8,ntmps8;go_wp2;go_ret;exact⟨rfl,Yab _ _⟩
 have y:(a==[110,101,119])=false:=by rw[Yah];exact j
 by_cases n:a=[103,101,116]
 ·subst n;rw[show refT [103,101,116]=2 from by decide];go_enter func8,ntmps8;go_wp2;go_ret;exact⟨rfl,Yab _ _⟩
 have H:(a==[103,101,116])=false:=by rw[Yah];exact n
 by_cases h:a=[112,117,116]
 ·subst h;rw[show refT [112,117,116]=2 from by decide];go_enter func8,ntmps8;go_wp2;go_ret;exact⟨rfl,Yab _ _⟩
 have E:(a==[112,117,116])=false:=by rw[Yah];exact h
 by_cases m:a=[99,97,108,108]
 ·subst m;rw[show refT [99,97,108,108]=2 from by decide];go_enter func8,ntmps8;go_wp2;go_ret;exact⟨rfl,Yab _ _⟩
 have B:(a==[99,97,108,108])=false:=by rw[Yah];exact m
 by_cases b:a=[97,114,114,97,121]
 ·subst b;rw[show refT [97,114,114,97,121]=2 from by decide];go_enter func8,ntmps8;go_wp2;go_ret;exact⟨rfl,Yab _ _⟩
 have v:(a==[97,114,114,97,121])=false:=by rw[Yah];exact b
 by_cases c:a=[105,115]
 ·subst c;rw[show refT [105,115]=2 from by decide];go_enter func8,ntmps8;go_wp2;go_ret;exact⟨rfl,Yab _ _⟩
 have u:(a==[105,115])=false:=by rw[Yah];exact c
 by_cases d:a=[99,97,115,116]
 ·subst d;rw[show refT [99,97,115,116]=2 from by decide];go_enter func8,ntmps8;go_wp2;go_ret;exact⟨rfl,Yab _ _⟩
 have x:(a==[99,97,115,116])=false:=by rw[Yah];exact d
 have t:thirteen.contains a=false:=by
  simp only[thirteen,List.contains_cons,List.contains_nil,A,z,C,F,G,D,y,H,E,B,v,u,x,Bool.or_false]
 rw[Zpt a t];have f:=Hd (ZhV a w);by_cases r:idx a<42
 ·rw[Yay r]at f⊢;generalize idx a=J at f;have I:¬((J:Int)<0):=by omega
  clear t r g k l p i q j n h m b c d;go_enter func8,ntmps8
  go_wp2_with (go_at_call 16;refine f.o.mono ?_;rintro e w'⟨rfl,s⟩)
  go_ret;exact⟨rfl,s⟩
 ·rw[Yar r]at f⊢;clear t r g k l p i q j n h m b c d;go_enter func8,ntmps8
  go_wp2_with (go_at_call 16;refine f.o.mono ?_;rintro e w'⟨rfl,s⟩)
  go_ret;exact⟨rfl,s⟩
theorem Zqt {l:List UInt8}{k:Nat}(c:k<l.length)(d:k<=ZaQ l)(b:l.getD k 0=46):ZaQ l=k:=by
 rcases YaC k (ZaQ l)with a|a
 ·have:=List.not_of_lt_findIdx a;simp[List.getD,List.getElem?_eq_getElem c]at b;simp[b]at this
 ·omega
theorem Zqs {l:List UInt8}{k:Nat}(f:k<l.length)(g:k<=ZaQ l)(d:l.getD k 0≠46):k+1<=ZaQ l:=by
 rcases YaC k (ZaQ l)with b|b
 ·omega
 ·have e:ZaQ l=k:=by omega
  exfalso;have a:ZaQ l<l.length:=by omega
  have:=YbY (xs:=l) (p:=fun c=>c==46) (w:=a);apply d;simp only[beq_iff_eq]at this;rw[List.getD,Yaa f,Option.getD_some];rw[←this]
  congr 1
  exact e.symm
def Zp5 (l:List UInt8)(w:World)(e:Ending)(w':World):Prop:=
 (∃a,w'=w.drewN a)/\((ZaQ l<l.length/\e=.returned (.tuple #[.string (S (l.take (ZaQ l))),.string (S (l.drop (ZaQ l+1))),.bool (ZaU l)]))\/
  (l.length<=ZaQ l/\e=.returned (.tuple #[.string ⟨#[]⟩,.string ⟨#[]⟩,.bool false])))
theorem Zd2 (l:List UInt8)(w:World)(y:l.length<=9223372036854775807) :
  Calls prog 244 #[.string (S l)] w (Zp5 l w):=by
 have C:((S l).size:Int)=(l.length:Int):=by rw[Zat]
 obtain⟨n,z⟩:∃n,n=l.length:=⟨_,rfl⟩
 rw[←z]at C;have D:=Hd z;have L:n<=9223372036854775807:=by omega
 have A:Hid (∀k w,Calls prog 159 #[.string (S (l.take k))] w fun e w'=>e=.returned (.bool (Zah (l.take k)))/\w=w'):=fun k w=>Zct (l.take k) w (by rw[YaA];omega);have m:Hid (∀k w,Calls prog 160 #[.string (S (l.drop k))] w fun e w'=>e=.returned (.bool (ZaA (l.drop k)))/\w=w'):=fun k w=>ZdL (l.drop k) w (by rw[Ybr];omega);clear z y;go_enter func244,ntmps244;go_wp2
 go_loop [5] (fun B=>∃k:Nat,k<=n/\B=.int .i64 k/\k<=ZaQ l) (fun B=>n-(intOf B).toNat)
 case atStart=>exact⟨0,Yao _,rfl,Yao _⟩
 case round=>
  obtain⟨k,P,rfl,i⟩:=hrel;by_cases J:k<n
  ·have g:k<l.length:=by have:=D.o;omega
   obtain⟨x,r⟩:∃x,x=l.getD k 0:=⟨_,rfl⟩
   obtain⟨c,q⟩:∃c,c=x.toNat:=⟨_,rfl⟩
   have I:∀h:k<(S l).size,((S l)[k]'h).toNat=c:=fun h=>by rw[q,r,S_at l k g h]
   by_cases j:x=46
   ·have t:ZaQ l=k:=Zqt g i (by rw[←r];exact j);obtain rfl:c=46:=by rw[q,j];rfl
    have u:=Hd t;clear t r q j i;have H:=ZgG l k;have G:=ZfC l (k+1);have N:IntKind.i64.wrap ((k:Int)+1)=(k:Int)+1:=IntWalk.i64_in _ (by omega);have w2:((k:Int)+1).toNat=k+1:=by omega
    have M:(0:Int)<=(k:Int)+1:=by omega
    have O:(k:Int)+1<=(n:Int):=by omega
    have R:(0:Int)<=(k:Int):=by omega
    have Q:(k:Int)<=(n:Int):=by omega
    have F:=Hd g;clear g;have f:=Hd (show ZaU l=(Zah (l.take k)&&ZaA (l.drop (k+1)))by unfold ZaU;rw[u.o,Yas F.o,YaG]);have v:ZaQ l<l.length:=by rw[u.o];exact F.o
    have a:=A.o k;have p:=Hd (m.o (k+1));cases d:Zah (l.take k)with
    |true=>
     rw[d]at a;rw[d,YaG]at f;have s:=Hd a;clear d a A m;generalize ZaA (l.drop (k+1))=b at p f;go_wp2_with fail;go_quiet ((first|(go_at_call 159;exact Calls.quiet_of_same ((s.o _).mono (fun _ _ h=>⟨h.1,h.2.symm⟩)))|(go_at_call 160;exact Calls.quiet_of_same ((p.o _).mono (fun _ _ h=>⟨h.1,h.2.symm⟩)))))
     go_wp2;go_ret3;exact⟨⟨nq,rfl⟩,.inl ⟨v,by rw[u.o,f.o];rfl⟩⟩
    |false=>
     rw[d]at a;rw[d,YaQ]at f;have s:=Hd a;clear d a A m;go_wp2_with fail;go_quiet ((first|(go_at_call 159;exact Calls.quiet_of_same ((s.o _).mono (fun _ _ h=>⟨h.1,h.2.symm⟩)))|(go_at_call 160;exact Calls.quiet_of_same ((p.o _).mono (fun _ _ h=>⟨h.1,h.2.symm⟩)))))
     go_wp2;go_ret3;exact⟨⟨nq,rfl⟩,.inl ⟨v,by rw[u.o,f.o];rfl⟩⟩
   ·have t:=Zqs g i (by rw[←r];exact j);have K:((c:Int)==46)=false:=by
     rw[Yah];intro h;apply j;apply UInt8.toNat_inj.1;rw[←q];show c=46;omega
    clear r q j;go_wp2;go_round
    case rel=>exact⟨k+1,by omega,by go_num,t⟩
    case measure=>simp[intOf];omega
  ·have E:l.length<=ZaQ l:=by have:=D.o;omega
   go_wp2;go_ret3;exact⟨⟨0,rfl⟩,.inr ⟨E,rfl⟩⟩
