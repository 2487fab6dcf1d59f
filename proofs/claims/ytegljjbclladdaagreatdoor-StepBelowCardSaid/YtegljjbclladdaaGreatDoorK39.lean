/- laws -/
import Derived.Test.YtegljjbclladdaaGreatDoorK37
set_option maxRecDepth 100000
set_option maxHeartbeats 16000000
namespace Go.Proofs.YtegljjbclladdaaGreatDoor
open Go.RowKit Proofs.Tryz
theorem Zmb:Zah Zcv=false:=by decide
theorem ZtJ {es:List Ent}{x b:Nat}(c:Up es x b)(k:parE es x=[]):b=x:=by
 cases c with
 |refl=>rfl
 |step a _=>rw[k]at a;cases a
theorem Wise.place {es:List Ent}(W:Wise es){n:List UInt8}{i:Nat}(c:Zad es n=some i):i<es.length/\∃e,es[i]?=some e/\e.cls.name=n/\Zah n=true/\nmE es i=n:=by
 obtain⟨e,a,b⟩:=ZdK c;exact⟨ZaV c,e,a,b,b▸W.cl i e a,by rw[Zgi a,b]⟩
theorem Wise.not_class {es:List Ent}(W:Wise es){n:List UInt8}(c:Zah n=false):Zad es n=none:=by
 cases b:Zad es n with
 |none=>rfl
 |some i=>obtain⟨_,_,_,_,a,_⟩:=W.place b;rw[c]at a;cases a
theorem Wise.at {es:List Ent}(W:Wise es){i:Nat}(b:i<es.length):Zad es (nmE es i)=some i/\Zah (nmE es i)=true:=by
 have a:=Yaa b;rw[Zgi a];exact⟨W.uq i _ a,W.cl i _ a⟩
theorem Wise.pos {es:List Ent}(W:Wise es):1<es.length:=(Yag.1 W.flt).1
theorem Wise.par0 {es:List Ent}(W:Wise es):parE es 0=[]:=ZcY W.obj
theorem Wise.upj {es:List Ent}(W:Wise es)(i:Nat)(e:Ent)(b:Nat)(a:es[i]?=some e)(c:e.up=some b):b<es.length:=W.par i b (ZbQ a c)
theorem Wise.line {es:List Ent}(W:Wise es){i:Nat}{e:Ent}(a:es[i]?=some e):Zan es (some i)=i::Zan es e.up:=ZgY W.sh W.upj a
theorem Wise.lineUp {es:List Ent}(W:Wise es){i:Nat}(b:i<es.length):Zan es (some i)=i::Zan es (upAt es i):=by
 have a:=Yaa b;rw[W.line a,Zcw a]
theorem Wise.upAt_lt {es:List Ent}(W:Wise es){i c:Nat}(b:upAt es i=some c):c<es.length:=by
 unfold upAt at b;cases a:es[i]? with
 |none=>rw[a]at b;cases b
 |some e=>rw[a]at b;exact W.upj i e c a b
theorem Wise.lineInd {es:List Ent}(W:Wise es){P:Nat->Prop}(j:P 0)(m:∀i c,i<es.length->i≠0->upAt es i=some c->P c->P i):∀i,i<es.length->P i:=by
 have h:∀(L:List Nat) (i:Nat),ZdA es L (some i)->P i:=by
  intro L;induction L with
  |nil=>intro i f;cases f
  |cons x l n=>
   intro i f;obtain⟨k,e,b,d⟩:=f;obtain rfl:=Yac k;by_cases a:i=0
   ·rw[a];exact j
   ·obtain⟨c,g⟩:=W.up i e b a;rw[g]at d;exact m i c (Yag.1 b).1 a (by rw[Zcw b];exact g) (n c d)
 exact fun i a=>h _ i (W.sh.line (some i) (fun c f=>by obtain rfl:=Yac f;exact a))
theorem Wise.zero_line {es:List Ent}(W:Wise es){i:Nat}(a:i<es.length):0∈Zan es (some i):=by
 refine W.lineInd (P:=fun i=>0∈Zan es (some i)) ?_ ?_ i a
 ·rw[W.line W.obj];exact Yam
 ·intro i d a _ b c;rw[W.lineUp a,b];exact Yau _ c
theorem Wise.line_up {es:List Ent}(W:Wise es):∀i,i<es.length->∀x∈Zan es (some i),Up es i x:=by
 refine W.lineInd ?_ ?_
 ·intro x a;rw[W.line W.obj]at a;rcases Yai.1 a with e|f
  ·rw[e];exact .refl _
  ·rw[show(⟨objC,none,[]⟩:Ent).up=none from rfl,Zbi]at f;cases f
 ·intro i h c _ b g x a;rw[W.lineUp c,b]at a;rcases Yai.1 a with e|f
  ·rw[e];exact .refl _
  ·refine .step ?_ (g x f);have d:=Yaa c;rw[Zcw d]at b;exact ZbQ d b
theorem ZrO {es:List Ent}{x d:Nat}(f:Lup es x d):Up es x d:=by
 induction f with
 |refl=>exact .refl _
 |step a _ b=>
  refine .step ?_ b;unfold lkOf at a;split at a
  ·rename_i e c;exact ZcG c a
  ·cases a
theorem Wise.lk_itf {es:List Ent}(W:Wise es){i k:Nat}(a:k∈lkOf es i):ZcB es k=true:=by
 unfold lkOf at a;split at a
 ·rename_i e b;exact W.lk i e b k a
 ·cases a
theorem Wise.lup_itf {es:List Ent}(W:Wise es){i k:Nat}(c:Lup es i k)(b:ZcB es i=true):ZcB es k=true:=
 c.inv (P:=fun x=>ZcB es x=true) (fun _ _ _ a=>W.lk_itf a) b
theorem Wise.itf_up {es:List Ent}(W:Wise es){i:Nat}(b:ZcB es i=true):∃e,es[i]?=some e/\e.cls.itf=true/\e.up=some 0/\e.cls.flds=[]/\∀m∈e.cls.mths,m.abs=true:=by
 unfold ZcB at b;split at b
 ·rename_i e a;exact⟨e,a,b,W.itf i e a b⟩
 ·cases b
theorem Wise.mem_above {es:List Ent}(W:Wise es){i:Nat}(a:i<es.length)(x:Nat):x∈ZaC es (some i)↔x∈Zan es (some i)\/∃d∈Zan es (some i),∃k∈lkOf es d,Lup es k x:=by
 unfold ZaC Zc4;rw[Yaq,Zhx (W.sh.mem (W.sh.line (some i) (fun c b=>by obtain rfl:=Yac b;exact a)))]
theorem Wise.above_iff {es:List Ent}(W:Wise es){i:Nat}(g:i<es.length)(x:Nat):x∈ZaC es (some i)↔Up es i x:=by
 rw[W.mem_above g];constructor
 ·rintro(n|⟨d,f,k,j,l⟩)
  ·exact W.line_up i g x n
  ·exact(W.line_up i g d f).trans (ZrO (.step j l))
 ·intro n;refine n.inv (P:=fun x=>x∈Zan es (some i)\/∃d∈Zan es (some i),∃k∈lkOf es d,Lup es k x) ?_ ?_
  ·intro x d c f;have h:∀e,es[x]?=some e->e.up=some d\/d∈e.lk:=fun e a=>by
    rw[ZcY a]at f;unfold Ent.par at f;rcases Yaq.1 f with b|b
    ·exact .inl (by simpa using b)
    ·exact .inr b
   rcases c with c|⟨r,q,k,j,l⟩
   ·obtain⟨e,a⟩:=ZbF (W.sh.line (some i) (fun v n=>by obtain rfl:=Yac n;exact g)) x c;rcases h e a with b|b
    ·refine .inl ?_;have:∀i,i<es.length->∀x∈Zan es (some i),∀e d,es[x]?=some e->e.up=some d->d∈Zan es (some i):=by
      refine W.lineInd ?_ ?_
      ·intro x c e d a f;rw[W.line W.obj,show(⟨objC,none,[]⟩:Ent).up=none from rfl,Zbi]at c;obtain rfl:=Yax.1 c;rw[W.obj]at a;obtain rfl:=Yac a;cases f
      ·intro i v g _ m u x c e d a f;rw[W.lineUp g,m]at c⊢;rcases Yai.1 c with t|b
       ·subst t;rw[Zcw a,f]at m;obtain rfl:=Yac m;refine Yau _ ?_;rw[W.lineUp (W.upj x e d a f)];exact Yam
       ·exact Yau _ (u x b e d a f)
     exact this i g x c e d a b
    ·exact .inr ⟨x,c,d,by rw[Zbm a];exact b,.refl _⟩
   ·have p:=W.lup_itf l (W.lk_itf j);obtain⟨e,a,_,s,_⟩:=W.itf_up p;rcases h e a with b|b
    ·rw[s]at b;obtain rfl:=Yac b;exact .inl (W.zero_line g)
    ·exact .inr ⟨r,q,k,j,l.trans (.step (by rw[Zbm a];exact b) (.refl _))⟩
  ·refine .inl ?_;rw[W.lineUp g];exact Yam
theorem Wise.line_lt {es:List Ent}(W:Wise es){i:Nat}(c:i<es.length):∀d∈Zan es (some i),d<es.length:=fun d a=>by
 obtain⟨e,b⟩:=ZbF (W.sh.line (some i) (fun g f=>by obtain rfl:=Yac f;exact c)) d a;exact(Yag.1 b).1
theorem mem_fldsL {es:List Ent}{f:Fld}:∀ {L:List Nat},f∈ZaZ es L↔∃x∈L,f∈Za6 es x
 |[]=>by simp[ZaZ]
 |x::l=>by
  rw[ZaZ,Yaq,mem_fldsL (L:=l)];constructor
  ·rintro(⟨c,a,b⟩|b)
   ·exact⟨c,Yau _ a,b⟩
   ·exact⟨x,Yam,b⟩
  ·rintro⟨c,a,b⟩;rcases Yai.1 a with e|a
   ·rw[e]at b;exact .inr b
   ·exact .inl ⟨c,a,b⟩
theorem Wise.owner {es:List Ent}(W:Wise es){i x:Nat}{m:Mth}{n:List UInt8}(b:i<es.length)(h:Zbt es (some i) n=some (x,m)):x<es.length/\Up es i x/\m∈Zal es x/\m.name=n:=by
 obtain⟨a,d⟩:=Zdq h;obtain⟨c,f⟩:=ZhL d;refine⟨ZdQ W.sh (fun j g=>by obtain rfl:=Yac g;exact b) x a,(W.above_iff b x).1 a,c,f⟩
theorem Wise.above_added {es:List Ent}(W:Wise es){i:Nat}(c:i<es.length){x:Nat}(h:x∈ZaC es (some i)):∃d∈Zan es (some i),x∈Zas es d:=by
 rcases(W.mem_above c x).1 h with f|⟨d,a,g⟩
 ·exact⟨x,f,Yam⟩
 ·refine⟨d,a,Yau _ ?_⟩;have b:=Yaa (W.line_lt c d a);exact(Zp0 (by rw[Zbm b];exact W.sh.deep d _ b) x).2 g
theorem Wise.above_step {es:List Ent}(W:Wise es){i j:Nat}(b:i<es.length)(f:upAt es i=some j){x:Nat}(l:x∈ZaC es (some i)):x∈Zas es i\/x∈ZaC es (some j):=by
 obtain⟨d,c,a⟩:=W.above_added b l;rw[W.lineUp b,f]at c;rcases Yai.1 c with e|g
 ·rw[e]at a;exact .inl a
 ·exact .inr (ZcN W.sh (fun k h=>by obtain rfl:=Yac h;exact W.upAt_lt f) g a)
theorem Wise.above0 {es:List Ent}(W:Wise es){x:Nat}(a:x∈ZaC es (some 0)):x=0:=ZtJ ((W.above_iff (by have:=W.pos;omega) x).1 a) W.par0
theorem Wise.mths0 {es:List Ent}(W:Wise es):Zal es 0=[]:=Zcr W.obj
theorem Wise.signs {es:List Ent}(W:Wise es):∀i,i<es.length->(∀d∈Zan es (some i),ZaN es d=false)->∀n,∃c,∀t∈ZaC es (some i),∀m∈Zal es t,m.name=n->ZaJ m=c:=by
 refine W.lineInd ?_ ?_
 ·intro _ n;refine⟨[],fun t h m b _=>?_⟩;rw[W.above0 h,W.mths0]at b;cases b
 ·intro i D u _ p y r n;have q:=r i (by rw[W.lineUp u];exact Yam);have y:=y (fun d q=>r d (by rw[W.lineUp u,p];exact Yau _ q));unfold ZaN at q;rw[YaW]at q;have v:∀t∈Zas es i,∀m∈Zal es t,m.name=n->∃f,(msE es (Zas es i)).find? (fun k=>k.name==n)=some f/\ZaJ m=ZaJ (inhE es i f):=by
   intro t h m b g;have w:m∈msE es (Zas es i):=YbD.2 ⟨t,h,b⟩;have a:=q m w;have j:((msE es (Zas es i)).find? (fun k=>k.name==n)).isSome=true:=List.find?_isSome.2 ⟨m,w,by rw[g];exact Ybi _⟩;obtain⟨f,l⟩:=YaL.1 j;refine⟨f,l,?_⟩;unfold clash knOf at a;rw[g,l]at a;simpa using a
  cases s:Zbt es (some D) n with
  |some C=>
   obtain⟨c,B⟩:=y n;have A:=W.owner (W.upAt_lt p) s;have z:=B C.1 (Zdq s).1 C.2 A.2.2.1 A.2.2.2;refine⟨c,fun t h m b g=>?_⟩;rcases W.above_step u p h with a|a
   ·obtain⟨f,j,l⟩:=v t a m b g;have x:f.name=n:=by simpa using Ych j
    rw[l,←z];unfold inhE;rw[p,x,s];rfl
   ·exact B t a m b g
  |none=>
   refine⟨match (msE es (Zas es i)).find? (fun k=>k.name==n)with|some f=>ZaJ f|none=>[],fun t h m b g=>?_⟩;rcases W.above_step u p h with a|a
   ·obtain⟨f,j,l⟩:=v t a m b g;have x:f.name=n:=by simpa using Ych j
    rw[j,l];unfold inhE;rw[p,x,s];rfl
   ·have:=Zdr a b;rw[g,s]at this;cases this
def Whole (es:List Ent)(i:Nat):Prop:=Zcz es i=false->∀a∈ZaC es (some i),∀m∈Zal es a,absM es i m.name=false
theorem ZfE {es:List Ent}{i:Nat}{n:List UInt8}{a:Nat×Mth}(b:Zbt es (some i) n=some a):absM es i n=a.2.abs:=by unfold absM;rw[b]
theorem Wise.whole {es:List Ent}(W:Wise es){i:Nat}(j:i<es.length)(aj:∀d∈Zan es (some i),Zb9 es d=false):Whole es i:=by
 have af:∀i,i<es.length->(∀d∈Zan es (some i),Zb9 es d=false)->∀d∈Zan es (some i),Whole es d:=by
  refine W.lineInd ?_ ?_
  ·intro _ d s;rw[W.line W.obj,show(⟨objC,none,[]⟩:Ent).up=none from rfl,Zbi]at s;rw[Yax.1 s];intro _ aF X m K;rw[W.above0 X,W.mths0]at K;cases K
  ·intro i B j _ y L q d s;have ai:=q i (by rw[W.lineUp j];exact Yam);have L:=L (fun d s=>q d (by rw[W.lineUp j,y];exact Yau _ s));rw[W.lineUp j,y]at s;rcases Yai.1 s with e|au
   ·subst e;intro az aF X m K;obtain⟨aE,J⟩:=YaL.1 (Zdr X K);obtain⟨x,t⟩:=aE;rw[ZfE J];cases P:t.abs with
    |false=>rfl
    |true=>
     exfalso;have N:=ai;unfold Zb9 at N;rw[az]at N;simp only[Bool.not_false,YaG,Ybv]at N;obtain⟨ad,Q⟩:=N;rw[y]at Q;obtain⟨aD,_,C,T⟩:=W.owner j J;have H:∀z,(Zas es z).any (Zb1 es d)=false->x ∉ Zas es z:=by
      intro z b r;have ax:=(YaW.1 b) x r;refine ax ?_;unfold Zb1;refine YaU.2 ⟨t,C,?_⟩;rw[T,ZfE J];exact P
     have v:∀z,z=d\/z∈(Zan es (some B)).takeWhile (Zcz es)->x ∉ Zas es z:=by
      intro z b;rcases b with e|b
      ·rw[e];exact H d ad
      ·refine H z ?_;have:=(YaW.1 Q) z b;simpa using this
     obtain⟨z,b,r⟩:=W.above_added j (Zdq J).1;rw[W.lineUp j,y]at b;have f:=List.takeWhile_append_dropWhile (p:=Zcz es) (l:=Zan es (some B));have E:z∈(Zan es (some B)).dropWhile (Zcz es):=by
      rcases Yai.1 b with e|b
      ·exact absurd r (v z (.inl e))
      ·rw[←f]at b;rcases Yaq.1 b with b|b
       ·exact absurd r (v z (.inr b))
       ·exact b
     cases n:(Zan es (some B)).dropWhile (Zcz es)with
     |nil=>rw[n]at E;cases E
     |cons c I=>
      have ak:Zcz es c=false:=by
       have:=List.head?_dropWhile_not (Zcz es) (Zan es (some B));rw[n]at this;simpa using this
      have G:c∈Zan es (some B):=by rw[←f,n];exact Ya3 _ Yam
      have w:=W.line_lt (W.upAt_lt y) c G;have hcut:Zan es (some c)=c::I:=by
       have al:=W.sh.line (some B) (fun k u=>by obtain rfl:=Yac u;exact W.upAt_lt y);have:∀(aa D:List Nat) (o:Option Nat),ZdA es (aa++c::D) o->ZdA es (c::D) (some c):=by
        intro aa;induction aa with
        |nil=>intro D o Z;exact⟨rfl,Z.2⟩
        |cons a l ao=>intro D o Z;obtain⟨_,e,_,aA⟩:=Z;exact ao D _ aA
       refine ZfG (W.sh.line (some c) (fun k u=>by obtain rfl:=Yac u;exact w)) (this ((Zan es (some B)).takeWhile (Zcz es)) I (some B) ?_);rw[←n,f];exact al
      have F:x∈ZaC es (some c):=ZcN W.sh (fun k u=>by obtain rfl:=Yac u;exact w) (by rw[hcut,←n];exact E) r;have A:=L c G ak x F t C;obtain⟨ah,O⟩:=YaL.1 (Zdr F C);rw[ZfE O]at A
      -- the first of the line that has it
      have g:=J;rw[←T]at g;have h:=O;unfold Zbt ZaC Zc4 at g h;rw[Ybd]at g h;have M:Zan es (some d)=(d::(Zan es (some B)).takeWhile (Zcz es))++(c::I):=by rw[W.lineUp j,y,List.cons_append,←n,f]
      rw[M,Ybd]at g;rw[hcut]at h;cases Y:(d::(Zan es (some B)).takeWhile (Zcz es)).findSome? (fun x=>(ownM es x t.name).map fun m=>(x,m))with
      |some ap=>
       rw[Y]at g;have:ap=(x,t):=by simpa using g
       subst this;obtain⟨l1,a,l2,V,U,_⟩:=YbW.1 Y;obtain⟨_,_,ab⟩:=YaO.1 U;have ar:a=x:=Ya8 Prod.fst ab;subst ar;refine v a ?_ Yam;have:a∈d::(Zan es (some B)).takeWhile (Zcz es):=by rw[V];simp
       rcases Yai.1 this with e|Z
       ·exact .inl e
       ·exact .inr Z
      |none=>
       rw[Y]at g;cases ag:(c::I).findSome? (fun x=>(ownM es x t.name).map fun m=>(x,m))with
       |some ap=>
        rw[ag]at g h;have aq:ap=(x,t):=by simpa using g
        have av:ap=ah:=by simpa using h
        rw[←av,aq]at A;rw[P]at A;cases A
       |none=>
        rw[ag]at h;rw[YbA]at h;obtain⟨l1,a,l2,V,U,_⟩:=YbW.1 h;obtain⟨ac,ay,ab⟩:=YaO.1 U;have am:a∈ifsL es es.length (c::I):=by rw[V];simp
        rw[←hcut]at am;obtain⟨aC,_,k,u,ae⟩:=(Zhx (W.sh.mem (W.sh.line (some c) (fun B Z=>by obtain rfl:=Yac Z;exact w))) a).1 am;obtain⟨e,aw,_,_,_,q⟩:=W.itf_up (W.lup_itf ae (W.lk_itf u));have R:=(ZhL ay).1;rw[Zcr aw]at R;have:=q ac R;have aB:ah.2=ac:=by rw[←ab]
        rw[aB,this]at A;cases A
   ·exact L d au
 exact af i j aj i (by rw[W.lineUp j];exact Yam)
inductive Thru (E:Nat->Nat->Prop) (k:Nat):Nat->Nat->Prop
 |base {i j:Nat}:E i j->Thru E k i j
 |comp {i m j:Nat}:Thru E k i m->m<k->Thru E k m j->Thru E k i j
inductive Plus (E:Nat->Nat->Prop):Nat->Nat->Prop
 |base {i j:Nat}:E i j->Plus E i j
 |comp {i m j:Nat}:Plus E i m->Plus E m j->Plus E i j
theorem Thru.split {l:Nat->Nat->Prop}{k i j:Nat}(h:Thru l (k+1) i j):Thru l k i j\/(Thru l k i k/\Thru l k k j):=by
 induction h with
 |base h=>exact .inl (.base h)
 | @comp i m j _ n _ g f=>
  rcases YaC m k with h|h
  ·rcases g with a|⟨a,b⟩<;>rcases f with c|⟨c,d⟩
   ·exact .inl (.comp a h c)
   ·exact .inr ⟨.comp a h c,d⟩
   ·exact .inr ⟨a,.comp b h c⟩
   ·exact .inr ⟨a,d⟩
  ·have:m=k:=by omega
   subst this;refine .inr ⟨?_,?_⟩
   ·rcases g with a|⟨a,_⟩<;>exact a
   ·rcases f with c|⟨_,c⟩<;>exact c
theorem Thru.zero {c:Nat->Nat->Prop}{i b:Nat}(a:Thru c 0 i b):c i b:=by
 cases a with
 |base a=>exact a
 |comp _ a _=>omega
theorem Plus.thru {g:Nat->Nat->Prop}{n:Nat}(f:∀i c,g i c->c<n){i c:Nat}(d:Plus g i c):Thru g n i c/\c<n:=by
 induction d with
 |base d=>exact⟨.base d,f _ _ d⟩
 |comp _ _ b a=>exact⟨.comp b.1 b.2 a.1,a.2⟩
def updM (d:Nat->Nat->Bool)(i f:Nat)(b:Bool):Nat->Nat->Bool:=fun a c=>if a=i/\c=f then b else d a c
theorem ZpV (c:Nat->Nat->Bool)(i a:Nat)(b:Bool):updM c i a b i a=b:=by unfold updM;rw[Yay ⟨rfl,rfl⟩]
structure War (E:Nat->Nat->Prop) (n k i j:Nat) (M:Nat->Nat->Bool):Prop where
 sound:∀a b,a<n->b<n->M a b=true->Plus E a b
 old:∀a b,a<n->b<n->Thru E k a b->M a b=true
 rows:∀a b,a<i->a<n->b<n->Thru E (k+1) a b->M a b=true
 cells:∀b,b<j->b<n->Thru E (k+1) i b->M i b=true
theorem War.step {w:Nat->Nat->Prop}{n k i l:Nat}{q:Nat->Nat->Bool}(p:War w n k i l q)(s:i<n)(r:k<n)(x:l<n):War w n k i (l+1) (updM q i l (q i l || (q i k&&q k l))):=by
 have j:∀a b,q a b=true->updM q i l (q i l || (q i k&&q k l)) a b=true:=by
  intro a b c;unfold updM;split
  ·rename_i e;obtain⟨rfl,rfl⟩:=e;rw[c];rfl
  ·exact c
 refine⟨fun a b f d c=>?_,fun a b f d h=>j a b (p.old a b f d h),fun a b t f d h=>j a b (p.rows a b t f d h),fun b v d h=>?_⟩
 ·unfold updM at c;split at c
  ·rename_i e;obtain⟨rfl,rfl⟩:=e;rw[YaZ,Yaw]at c;rcases c with g|⟨g,m⟩
   ·exact p.sound _ _ f d g
   ·exact .comp (p.sound _ _ f r g) (p.sound _ _ r d m)
  ·exact p.sound a b f d c
 ·rcases YaC b l with g|g
  ·exact j i b (p.cells b g d h)
  ·have:b=l:=by omega
   subst this;rw[ZpV,YaZ,Yaw];rcases h.split with m|⟨m,u⟩
   ·exact .inl (p.old i b s d m)
   ·exact .inr ⟨p.old i k s r m,p.old k b r d u⟩
theorem War.row {l:Nat->Nat->Prop}{n k i:Nat}{j:Nat->Nat->Bool}(g:War l n k i n j):War l n k (i+1) 0 j:=
 ⟨g.sound,g.old,fun a b m h c f=>by
  rcases YaC a i with d|d
  ·exact g.rows a b d h c f
  ·have:a=i:=by omega
   subst this;exact g.cells b c c f,fun b c=>by omega⟩
theorem War.layer {h:Nat->Nat->Prop}{n k:Nat}{g:Nat->Nat->Bool}(i:War h n k n 0 g):War h n (k+1) 0 0 g:=
 ⟨i.sound,fun a b c d f=>i.rows a b c c d f,fun a b j=>by omega,fun b d=>by omega⟩
theorem War.start {i:Nat->Nat->Prop}{n:Nat}{h:Nat->Nat->Bool}(j:∀a b,a<n->b<n->(h a b=true↔i a b)):War i n 0 0 0 h:=
 ⟨fun a b d c f=>.base ((j a b d c).1 f),fun a b d c g=>(j a b d c).2 g.zero,fun a b k=>by omega,fun b c=>by omega⟩
theorem War.done {h:Nat->Nat->Prop}{n:Nat}{k:Nat->Nat->Bool}(l:War h n n 0 0 k)(g:∀i j,h i j->j<n)(a b:Nat)(c:a<n)(d:b<n):k a b=true↔Plus h a b:=
 ⟨l.sound a b c d,fun f=>l.old a b c d (f.thru g).1⟩
def Zba (L:List Cls)(n:List UInt8):Option Nat:=L.findIdx? (fun c=>c.name==n)
def StepR (L:List Cls)(i a:Nat):Prop:=∃c,L[i]?=some c/\∃n∈c.sup::c.like,Zba L n=some a
theorem StepR.lt {L:List Cls}{i b:Nat}(a:StepR L i b):b<L.length:=by
 obtain⟨c,_,n,_,a⟩:=a;unfold Zba at a;exact(YaX.1 a).1
section
variable {es es':List Ent}{π:Nat->Nat}
end
theorem Lined.uniq0 {cs:List Cls}(a:Lined cs):Uniq (Zar cs):=by
 rw[←Zc8];exact ZcA a.names _ (Yad _)
theorem Zd1 (es:List Ent)(n:List UInt8):Zad es n=Zba (es.map Ent.cls) n:=by
 unfold Zad Zba;rw[List.findIdx?_map];rfl
def allR (cs:List Cls):List Cls:=givenL++cs
theorem Zg8:startL.map Ent.cls=givenL:=by
 unfold startL givenL;rw[YbI,YbI,Yb1];rfl
theorem Zcs (cs:List Cls):(newT cs).map Ent.cls=allR cs:=by
 unfold newT allR;rw[Ya9,Zg8,Yb1]
 congr 1
 conv=>rhs;rw[←List.map_id cs]
 rfl
theorem Lined.step {cs:List Cls}(F:Lined cs)(i r:Nat):StepR (allR cs) i r↔r∈parE (newT cs) i:=by
 have l:∀n,Zba (allR cs) n=Zad (Zar cs) n:=fun n=>by rw[←Zcs,←Zd1,ZbB (Zcj cs)]
 unfold StepR;have E:(allR cs)[i]?=((newT cs)[i]?).map Ent.cls:=by rw[←Zcs,Yav]
 rw[E];cases a:(newT cs)[i]? with
 |none=>
  constructor
  ·rintro⟨c,t,_⟩;cases t
  ·intro d;unfold parE at d;rw[a]at d;cases d
 |some e=>
  rw[ZcY a];simp only[YbV,Ya1];rcases Zbn a with⟨p,h⟩|⟨p,c,h,rfl⟩
  ·have K:∀i,i<8->∀e,startL[i]?=some e->(e.cls.like=[]/\e.lk=[])/\(e.up=none/\e.cls.sup=[]\/e.up=some 0/\e.cls.sup=objL\/e.up=some 1/\e.cls.sup=Zbe):=by
    intro i I e a
    match i,I,a with
    |0,_,a=>obtain rfl:=Yac a;exact⟨⟨rfl,rfl⟩,.inl ⟨rfl,rfl⟩⟩
    |1,_,a=>obtain rfl:=Yac a;exact⟨⟨rfl,rfl⟩,.inr (.inl ⟨rfl,rfl⟩)⟩
    |2,_,a=>obtain rfl:=Yac a;exact⟨⟨rfl,rfl⟩,.inr (.inr ⟨rfl,rfl⟩)⟩
    |3,_,a=>obtain rfl:=Yac a;exact⟨⟨rfl,rfl⟩,.inr (.inr ⟨rfl,rfl⟩)⟩
    |4,_,a=>obtain rfl:=Yac a;exact⟨⟨rfl,rfl⟩,.inr (.inr ⟨rfl,rfl⟩)⟩
    |5,_,a=>obtain rfl:=Yac a;exact⟨⟨rfl,rfl⟩,.inr (.inr ⟨rfl,rfl⟩)⟩
    |6,_,a=>obtain rfl:=Yac a;exact⟨⟨rfl,rfl⟩,.inr (.inr ⟨rfl,rfl⟩)⟩
    |7,_,a=>obtain rfl:=Yac a;exact⟨⟨rfl,rfl⟩,.inr (.inr ⟨rfl,rfl⟩)⟩
    |k+8,m,_=>omega
   obtain⟨⟨x,G⟩,g⟩:=K i p e h;have q:=F.uniq0;have D:Zba (allR cs) objL=some 0:=by rw[l];exact q 0 _ (by rw[ZdB (by omega)];rfl)
   have C:Zba (allR cs) Zbe=some 1:=by rw[l];exact q 1 _ (by rw[ZdB (by omega)];rfl)
   have H:Zba (allR cs) []=none:=by
    rw[l];cases z:Zad (Zar cs) []with
    |none=>rfl
    |some k=>
     exfalso;rw[←ZbB (Zcj cs)]at z;obtain⟨B,L,J⟩:=ZdK z;have t:Zah B.cls.name=true:=by
      rcases Zbn L with⟨p,h⟩|⟨p,c,h,rfl⟩
      ·exact(Za1 k p B h).1
      ·exact(F.good c (Yaf h)).name
     rw[J]at t;exact absurd t (by decide)
   unfold Ent.par;rw[G,YaN];rcases g with⟨g,j⟩|⟨g,j⟩|⟨g,j⟩
   ·constructor
    ·rintro⟨c,rfl,n,f,b⟩;rw[x,j]at f;rw[Yax.1 f,H]at b;cases b
    ·intro d;rw[g]at d;cases d
   ·constructor
    ·rintro⟨c,rfl,n,f,b⟩;rw[x,j]at f;rw[Yax.1 f,D]at b;rw[g,←Yac b];simp
    ·intro d;rw[g]at d;refine⟨_,rfl,objL,by rw[j];exact Yam,?_⟩;rw[D,show r=0 by simpa using d]
   ·constructor
    ·rintro⟨c,rfl,n,f,b⟩;rw[x,j]at f;rw[Yax.1 f,C]at b;rw[g,←Yac b];simp
    ·intro d;rw[g]at d;refine⟨_,rfl,Zbe,by rw[j];exact Yam,?_⟩;rw[C,show r=1 by simpa using d]
  ·have A:=Yaf h;have y:=F.ups c A;have w:=F.likes c A;obtain⟨u,q⟩:=YaL.1 y;have v:=(Zjo q).1;show _↔r∈Ent.par ⟨c,upE (Zar cs) c.sup,ZbI (Zar cs) c.like⟩;unfold Ent.par;rw[Yaq];show(∃s,c=s/\∃n∈s.sup::s.like,Zba (allR cs) n=some r)↔r∈(upE (Zar cs) c.sup).toList\/r∈ZbI (Zar cs) c.like;rw[q];constructor
   ·rintro⟨s,rfl,n,f,b⟩;rw[l]at b;rcases Yai.1 f with e|f
    ·rw[e,v]at b;rw[Yac b];simp
    ·refine .inr (Ya2.2 ⟨n,f,?_⟩);obtain⟨k,m⟩:=YaL.1 (YaF.1 w n f);rw[m];have:=(ZcV m).1;rw[b]at this;exact(Yac this).symm
   ·rintro(d|d)
    ·refine⟨c,rfl,c.sup,Yam,?_⟩;rw[l,v,show r=u by simpa using d]
    ·obtain⟨n,f,b⟩:=Ya2.1 (show r∈c.like.map fun n=>(Zcp (Zar cs) n).getD 0 from d);refine⟨c,rfl,n,Yau _ f,?_⟩;obtain⟨k,m⟩:=YaL.1 (YaF.1 w n f);rw[m]at b;have b:k=r:=b;rw[l,(ZcV m).1,b]
theorem Zi5 {es:List Ent}{p:Nat->Nat->Prop}(a:∀i g,p i g↔g∈parE es i){i g:Nat}:Plus p i g↔Over es i g:=by
 constructor
 ·intro h;induction h with
  |base h=>exact .one ((a _ _).1 h)
  |comp _ _ f c=>exact f.then c.up
 ·rintro⟨d,m,l⟩;have j:∀ {x q:Nat},Up es x q->∀i,x∈parE es i->Plus p i q:=by
   intro x q h;induction h with
   |refl x=>intro i b;exact .base ((a _ _).2 b)
   |step k _ n=>intro i b;exact .comp (.base ((a _ _).2 b)) (n _ k)
  exact j l i m
theorem Zg0 {l:List UInt8}(c:ZbS l=true)(b:Zlu l=true):Zag l=true:=by
 have a:=Zig c;unfold Zag Zbp;rw[a,Nat.mul_zero,Nat.sub_zero,YaE,b];rfl
theorem Wise.kindR {es:List Ent}(W:Wise es)(l:List UInt8):ZdX es l=(l==Zcv || (Zag l&&(Zay (Zbp l) || (Zad es (Zbp l)).isSome))):=by
 unfold ZdX Zb6 topL;cases c:Zag l with
 |true=>simp
 |false=>
  have a:Zay l=false:=by
   cases a:Zay l with
   |false=>rfl
   |true=>
    have:=Zg0 (Zer a) (by unfold Zlu;rw[a];rfl);rw[c]at this;cases this
  have b:Zad es l=none:=by
   cases d:Zad es l with
   |none=>rfl
   |some i=>
    obtain⟨_,_,_,_,b,_⟩:=W.place d;have:=Zg0 (Zbs b) (by unfold Zlu;rw[b];simp);rw[c]at this;cases this
  simp[a,b]
theorem Zck {b:Bool}(a:b=true->False):b=false:=by cases b with|false=>rfl|true=>exact(a rfl).elim
theorem Zo5 {S:Nat->Prop}{a V W:World}(c:Only S a V)(b:Below V.heap.size V W):Only S a W:=c.trans (Yae b)
theorem ZgP {es:List Ent}{o:Option Nat}{n:List UInt8}{c:Nat×Mth}(h:Zbt es o n=some c):c.1∈ZaC es o/\c.2∈Zal es c.1:=by
 unfold Zbt at h;obtain⟨l1,a,l2,d,f,_⟩:=YbW.1 h;obtain⟨m,b,g⟩:=YaO.1 f;subst g;refine⟨by rw[d];simp,?_⟩;unfold ownM at b;exact YbL b
def mthZ:Value:=.agg #[.string ⟨#[]⟩,.slice none 0 0,.string ⟨#[]⟩,.bool false,.int .i64 0,.slice none 0 0,.slice none 0 0]
def ZtB (es:List Ent)(a:Option (Nat×Mth))(w:World)(e:Ending)(w':World):Prop:=Below w.heap.size w w'/\
 ((a=none/\e=.returned (.tuple #[.string ⟨#[]⟩,mthZ,.bool false]))\/∃x m v,a=some (x,m)/\e=.returned (.tuple #[.string (S (nmE es x)),v,.bool true])/\MthR (fun k=>w.heap.size<=k) w' m v)
theorem Zj6 {A:Nat->Prop}{B:Nat->Nat}{bf bc:Nat}{es:List Ent}{aG:World}(ad:Tab A aG bf bc B es)(aD:Shape es)(ac:∀i,(Zal es i).length<=9223372036854775807)(al:∀i,∀m∈Zal es i,m.Small)(c n:List UInt8)(bo:c.length<=9223372036854775807)(w:World)(t:Below aG.heap.size aG w) :
  Calls prog 173 #[.pointer (some ⟨bf,0,none⟩),.string (S c),.string (S n)] w (ZtB es (Zbt es (Zad es c) n) w):=by
 have z:Below w.heap.size w (w.alloc (.cells #[.string ⟨#[]⟩,.slice none 0 0,.string ⟨#[]⟩,.bool false,.int .i64 0,.slice none 0 0,.slice none 0 0] 26)):=Zaa (Yab _ _) _;have Z:=Box.new w #[.string ⟨#[]⟩,.slice none 0 0,.string ⟨#[]⟩,.bool false,.int .i64 0,.slice none 0 0,.slice none 0 0] 26;generalize s:w.alloc (.cells #[.string ⟨#[]⟩,.slice none 0 0,.string ⟨#[]⟩,.bool false,.int .i64 0,.slice none 0 0,.slice none 0 0] 26)=W at z Z;have D:=Hd (ad.below (t.trans (z.mono t.size)));have a5:W.cell? ⟨bf,0,none⟩=some (.map (some bc)):=D.o.box.cell 0 rfl;have au:=D.o.look c bo;have E:=Hd (ZhG ad aD ac (Zad es c) (fun i bg=>ZaV bg) n W (t.trans (z.mono t.size)));obtain⟨bx,ai⟩:=Zc0 B (Zad es c);rw[ai]at au E;unfold Zp4 at E;have ap:=Hd Z;have j:=Hd z;obtain⟨N,V,O,Q,K,aa,U⟩:=ZfZ Z;obtain⟨R,J,M,L,T,X,ab⟩:=Zdl Z;cases aB:Zbt es (Zad es c) n with
 |none=>
  rw[aB]at E;clear ad aD ac al t z Z D ai aB N V O Q K aa U R J M L T X ab;go_enter func173,ntmps173
  go_upto_region 1 with fail;clear s;go_wp2_with fail;with_reducible refine E.o.mono ?_
  rintro e d⟨ah,a0,rfl,bm,h⟩;obtain rfl:a0=none:=bm;have aF:=ap.o.below h;obtain⟨N,V,O,Q,K,aa,U⟩:=ZfZ aF;obtain⟨R,J,M,L,T,X,ab⟩:=Zdl aF;obtain⟨ae,Y⟩:=set7 aF (.string ⟨#[]⟩) (.slice none 0 0) (.string ⟨#[]⟩) (.bool false) (.int .i64 0) (.slice none 0 0) (.slice none 0 0);have y:=j.o.trans (h.mono j.o.size);have aR:=Hd (y.trans (Y.below y.size (fun k (p:k=w.heap.size)=>by omega)));have aE:=Hd ae;clear h aF ae Y y E ap j a5 au;obtain⟨q,r⟩:∃q,q=w.heap.size:=⟨_,rfl⟩
  rw[←r]at N V O Q K aa U R J M L T X ab aE⊢;have aj:=Hd r;clear r;go_wp2;have l:=ZaS (P:=prog) (ty:=26) aE.o underlying26 rfl Zbg;have r:=aj.o;subst r;refine bodyPost_ret (v:=.tuple #[.string ⟨#[]⟩,mthZ,.bool false]) ?_ rfl ⟨aR.o,.inl ⟨rfl,rfl⟩⟩;simp only[results,results173];simp[asAddr,l,mthZ]
 |some bw=>
  obtain⟨x,m⟩:=bw;rw[aB]at E;have F:=ZgP aB;have ar:x<es.length:=ZdQ aD (fun i bg=>ZaV bg) x F.1;obtain⟨C,aP⟩:∃C,es[x]?=some C:=⟨_,Yaa ar⟩
  have aO:m.Small:=al x m F.2;have bd:=Hd aO;have a1:Hid (B x<aG.heap.size):=Hd (ad.lt ar);have a9:Hid (nmE es x=C.cls.name):=Hd (Zgi aP);have aL:Hid (∀H,Below W.heap.size W H->H.cell? ⟨B x,1,none⟩=some (.string (S C.cls.name))):=Hd (fun H ax=>by
   obtain⟨_,_,_,_,a7,_⟩:=(D.o.below ax).ent x C aP;exact a7.cell 1 rfl)
  clear ad aD ac al z Z D ai aB F ar aO N V O Q K aa U R J M L T X ab;go_enter func173,ntmps173
  go_upto_region 1 with fail;clear s;go_wp2_with fail;with_reducible refine E.o.mono ?_
  rintro e d⟨ah,a0,rfl,⟨rfl,b,g,bj,aN,aI,aQ,az,am⟩,h⟩;obtain rfl:a0=some ⟨b,g,none⟩:=by injection aN
  have G:=MthR.st.keep (A:=A) aI (Yae (S:=fun _=>False) (t.trans ((j.o.trans (h.mono j.o.size)).mono t.size))) (fun _ _=>id);have f:∀H,Below d.heap.size d H->∀(a4:Nat) u,bj.cells[a4]?=some u->H.cell? ⟨b,g+a4,none⟩=some u:=fun H ax a4 u bp=>
   (Yae (S:=fun _=>False) (t.trans (((j.o.trans (h.mono j.o.size)).trans (ax.mono (j.o.trans (h.mono j.o.size)).size)).mono t.size))).cell (a:=⟨b,g+a4,none⟩) (am a4 u bp) id
  obtain⟨_,_,_,rfl,⟨ah,aU,rfl⟩,⟨aX,aV,rfl⟩,⟨aT,aY,rfl⟩⟩:=Zaj G;have ao:=ap.o.below h;have I:=ap.o.lt;obtain⟨q,r⟩:∃q,q=w.heap.size:=⟨_,rfl⟩
  rw[←r]at ao I⊢;have a8:B x<w.heap.size:=Ya7 a1.o t.size;have ba:b<w.heap.size:=Ya7 az t.size;have a2:Hid (∀W,Only (fun k=>k=q\/d.heap.size<=k) d W->W.cell? ⟨B x,1,none⟩=some (.string (S C.cls.name))/\W.cell? ⟨b,g,none⟩=some (.string (S m.name))/\W.cell? ⟨b,g+1,none⟩=some (.slice ah m.params.length aU)/\W.cell? ⟨b,g+2,none⟩=some (.string (S m.res))/\W.cell? ⟨b,g+3,none⟩=some (.bool m.abs)/\W.cell? ⟨b,g+4,none⟩=some (.int .i64 m.loc)/\W.cell? ⟨b,g+5,none⟩=some (.slice aX m.code.length aV)/\W.cell? ⟨b,g+6,none⟩=some (.slice aT m.cats.length aY)):=Hd (fun W s=>by
   have bu:=h.size;refine⟨s.cell (aL.o d h) (fun(p:B x=q\/d.heap.size<=B x)=>by rcases p with p|p<;>omega),?_,?_,?_,?_,?_,?_,?_⟩;all_goals first
    |exact s.cell (a:=⟨b,g,none⟩) (f d (Yab _ _) 0 _ rfl) (fun(p:b=q\/d.heap.size<=b)=>by rcases p with p|p<;>omega)
    |exact s.cell (a:=⟨b,g+1,none⟩) (f d (Yab _ _) 1 _ rfl) (fun(p:b=q\/d.heap.size<=b)=>by rcases p with p|p<;>omega)
    |exact s.cell (a:=⟨b,g+2,none⟩) (f d (Yab _ _) 2 _ rfl) (fun(p:b=q\/d.heap.size<=b)=>by rcases p with p|p<;>omega)
    |exact s.cell (a:=⟨b,g+3,none⟩) (f d (Yab _ _) 3 _ rfl) (fun(p:b=q\/d.heap.size<=b)=>by rcases p with p|p<;>omega)
    |exact s.cell (a:=⟨b,g+4,none⟩) (f d (Yab _ _) 4 _ rfl) (fun(p:b=q\/d.heap.size<=b)=>by rcases p with p|p<;>omega)
    |exact s.cell (a:=⟨b,g+5,none⟩) (f d (Yab _ _) 5 _ rfl) (fun(p:b=q\/d.heap.size<=b)=>by rcases p with p|p<;>omega)
    |exact s.cell (a:=⟨b,g+6,none⟩) (f d (Yab _ _) 6 _ rfl) (fun(p:b=q\/d.heap.size<=b)=>by rcases p with p|p<;>omega))
  have a3:Hid (∀W,Below d.heap.size d W->Calls prog 138 #[.agg #[.string (S m.name),.slice ah m.params.length aU,.string (S m.res),.bool m.abs,.int .i64 m.loc,.slice aX m.code.length aV,.slice aT m.cats.length aY]] W (fun e w'=>∃aS,e=.returned aS/\MthR (fun i=>W.heap.size<=i) w' m aS/\Below W.heap.size W w')):=Hd (fun W s=>ZrM (A:=A) m _ W (MthR.st.keep G (Yae (S:=fun _=>False) s) (fun _ _=>id)) bd.o);have aA:=Hd ao;have ak:=Hd (j.o.trans (h.mono j.o.size));have aW:=Hd (And.intro I h.size);have aj:=Hd r;clear ao I r a8 ba f G aI am aN aQ az h E aL ap j t a5 au;go_upto_region 4 with fail;obtain⟨bt,bl,bh,bn,bk,bq,br,bs⟩:=a2.o d (Yak _ _);first
  |(go_region_held3 (fun W=>W.cell? ⟨B x,1,none⟩=some (.string (S C.cls.name))/\W.cell? ⟨b,g,none⟩=some (.string (S m.name))/\W.cell? ⟨b,g+1,none⟩=some (.slice ah m.params.length aU)/\W.cell? ⟨b,g+2,none⟩=some (.string (S m.res))/\W.cell? ⟨b,g+3,none⟩=some (.bool m.abs)/\W.cell? ⟨b,g+4,none⟩=some (.int .i64 m.loc)/\W.cell? ⟨b,g+5,none⟩=some (.slice aX m.code.length aV)/\W.cell? ⟨b,g+6,none⟩=some (.slice aT m.cats.length aY)) ((refine a2.o _ ?_;(with_reducible repeat (first|exact Yak _ _|assumption|refine Ybs ?_|refine Ybf ?_ (Or.inl rfl) _|(apply Zo5;rotate_left;assumption)))))
    (first|((go_at_call 138;(with_reducible refine(a3.o _ ?_).mono ?_);(focus ((with_reducible repeat (first|exact Yab _ _|refine Zab ?_));done));rintro e bi⟨aS,rfl,aK,bv⟩;obtain⟨_,_,_,rfl,⟨af,ay,rfl⟩,⟨av,aq,rfl⟩,⟨ag,aC,rfl⟩⟩:=Zaj aK;have aw:Below d.heap.size d bi:=(by(with_reducible repeat (first|exact Yab _ _|(apply Zae;rotate_left;assumption)|refine Zab ?_)));have bb:=Hd aK;have aJ:=Hd aw;obtain⟨N,V,O,Q,K,aa,U⟩:=ZfZ (aA.o.below aw);obtain⟨R,J,M,L,T,X,ab⟩:=Zdl (aA.o.below aw)))))
  |fail
  all_goals
   obtain⟨ae,Y⟩:=set7 (aA.o.below aJ.o) (.string (S m.name)) (.slice af m.params.length ay) (.string (S m.res)) (.bool m.abs) (.int .i64 m.loc) (.slice av m.code.length aq) (.slice ag m.cats.length aC);have aM:∀k,d.heap.size<=k->¬k=q:=fun k aZ p=>by have:=aW.o.1;have:=aW.o.2;omega
   have aH:MthR (fun k=>w.heap.size<=k) _ m (.agg #[.string (S m.name),.slice af m.params.length ay,.string (S m.res),.bool m.abs,.int .i64 m.loc,.slice av m.code.length aq,.slice ag m.cats.length aC]):=MthR.st.mono (MthR.st.keep (MthR.st.mono (A':=fun k=>d.heap.size<=k) bb.o (fun k _ (aZ:_<=k)=>aZ)) Y aM) (fun k _ (aZ:d.heap.size<=k)=>by have:=aW.o.2;have:=ak.o.size;show w.heap.size<=k;omega);have a6:=Hd aH;have y:=ak.o.trans (aJ.o.mono ak.o.size);have aR:=Hd (y.trans (Y.below y.size (fun k (p:k=q)=>by have:=aj.o;omega)));have aE:=Hd ae;clear ae Y aM aH y N V O Q K aa U R J M L T X ab bt bl bh bn bk bq br bs;go_wp2;have l:=ZaS (P:=prog) (ty:=26) aE.o underlying26 rfl Zbg;refine bodyPost_ret (v:=.tuple #[.string (S C.cls.name),.agg #[.string (S m.name),.slice af m.params.length ay,.string (S m.res),.bool m.abs,.int .i64 m.loc,.slice av m.code.length aq,.slice ag m.cats.length aC],.bool true]) ?_ rfl ⟨aR.o,.inr ⟨x,m,_,rfl,by rw[a9.o],a6.o⟩⟩;simp only[results,results173];simp[asAddr,l]
structure CV where
 val:Value
 sz:val.cells.size=8
 one:∀u∈val.cells.toList,u.oneCell'=true
abbrev cvV (x:CV):Value:=x.val
abbrev CVR:Zao CV:=Flat cvV
theorem ZrQ:Stays CVR:=Flat.stays _
theorem ZjI {A:Nat->Prop}{w:World}{c:Cls}{v:Value}(h:ClsR A w c v):v.cells.size=8/\∀u∈v.cells.toList,u.oneCell'=true:=by
 obtain⟨_,_,_,rfl,⟨lo,f,rfl⟩,⟨b,fc,rfl⟩,⟨g,d,rfl⟩⟩:=ZbX h;refine⟨rfl,fun u a=>?_⟩;simp[Value.cells]at a;rcases a with rfl|rfl|rfl|rfl|rfl|rfl|rfl|rfl<;>rfl
structure Vals (A:Nat->Prop) (w:World) (cs:List Cls) (vs:List CV):Prop where
 len:vs.length=cs.length
 each:∀(k:Nat) (c:Cls),cs[k]?=some c->∃u:CV,vs[k]?=some u/\ClsR A w c (cvV u)
theorem Zrz {A A':Nat->Prop}{w:World}{sv:Value}{cs:List Cls}{d:List CV}(c:Vals A w cs d)(q:Src 8 CVR A' w sv d):Src 8 ClsR Anyw w sv cs:=by
 rcases q with⟨p,a,rfl,l⟩|⟨b,o,a,rfl,f,g⟩
 ·have:cs=[]:=Ya0.1 (by rw[←c.len,l];rfl);exact .inl ⟨_,_,rfl,this⟩
 ·rw[c.len]at f⊢;refine .inr ⟨b,o,a,rfl,⟨trivial,f.2⟩,fun k x h=>?_⟩;obtain⟨u,n,m⟩:=c.each k x h;obtain⟨v,rfl,j,i⟩:=g k u n;exact⟨_,ClsR.st.mono m (fun _ _ _=>trivial),j,i⟩
abbrev Zp7 (lo:Nat)(W:World)(v:Value)(l:List CV):Prop:=TRow 8 70 CVR lo W v l (l.map cvV)
