/- laws -/
import Derived.Test.YtggcdinoflchjaaGreatDoorK37
set_option maxRecDepth 100000
set_option maxHeartbeats 16000000
namespace Go.Proofs.YtggcdinoflchjaaGreatDoor
open Go.RowKit
theorem Zkw:Zal Zdq=false:=by decide
theorem Zq1 {es:List Ent} {x y:Nat} (h:Up es x y) (k:parE es x=[]):y=x:=by
 cases h with
 | refl=>rfl
 | step h1 _=>rw [k] at h1;cases h1
theorem Wise.place {es:List Ent} (W:Wise es) {n:List UInt8} {i:Nat} (h:Zad es n=some i):i<es.length/\∃ e,es[i]? = some e/\e.cls.name=n/\Zal n=true/\nmE es i=n:=by
 obtain ⟨e,h1,h2⟩:=Zds h;exact ⟨Za4 h,e,h1,h2,h2 ▸ W.cl i e h1,by rw [ZhJ h1,h2]⟩
theorem Wise.not_class {es:List Ent} (W:Wise es) {n:List UInt8} (h:Zal n=false):Zad es n=none:=by
 cases hp:Zad es n with
 | none=>rfl
 | some i=>obtain ⟨_,_,_,_,hc,_⟩:=W.place hp;rw [h] at hc;cases hc
theorem Wise.pos {es:List Ent} (W:Wise es):1<es.length:=(Yag.1 W.flt).1
theorem Wise.par0 {es:List Ent} (W:Wise es):parE es 0=[]:=ZcK W.obj
theorem Wise.upj {es:List Ent} (W:Wise es) (i:Nat) (e:Ent) (j:Nat) (he:es[i]? = some e) (hj:e.up=some j):j<es.length:=W.par i j (ZbG he hj)
theorem Wise.line {es:List Ent} (W:Wise es) {i:Nat} {e:Ent} (he:es[i]? = some e):Zap es (some i)=i :: Zap es e.up:=ZfV W.sh W.upj he
theorem Wise.lineUp {es:List Ent} (W:Wise es) {i:Nat} (hi:i<es.length):Zap es (some i)=i :: Zap es (upAt es i):=by
 have he:=Yaa hi;rw [W.line he,Zci he]
theorem Wise.upAt_lt {es:List Ent} (W:Wise es) {i j:Nat} (h:upAt es i=some j):j<es.length:=by
 unfold upAt at h;cases he:es[i]? with
 | none=>rw [he] at h;cases h
 | some e=>rw [he] at h;exact W.upj i e j he h
theorem Wise.lineInd {es:List Ent} (W:Wise es) {P:Nat->Prop} (h0:P 0) (hs:∀ i j,i<es.length->i ≠ 0->upAt es i=some j->P j->P i):∀ i,i<es.length->P i:=by
 have key:∀ (L:List Nat) (i:Nat),Zdw es L (some i)->P i:=by
  intro L;induction L with
  | nil=>intro i h;cases h
  | cons x l ih=>
   intro i h;obtain ⟨hx,e,he,hc⟩:=h;obtain rfl:=Yae hx;by_cases hi:i=0
   ·rw [hi];exact h0
   ·obtain ⟨j,hj⟩:=W.up i e he hi;rw [hj] at hc;exact hs i j (Yag.1 he).1 hi (by rw [Zci he];exact hj) (ih j hc)
 exact fun i hi=>key _ i (W.sh.line (some i) (fun j h=>by obtain rfl:=Yae h;exact hi))
theorem Wise.zero_line {es:List Ent} (W:Wise es) {i:Nat} (hi:i<es.length):0 ∈ Zap es (some i):=by
 refine W.lineInd (P:=fun i=>0 ∈ Zap es (some i)) ?_ ?_ i hi
 ·rw [W.line W.obj];exact Yal
 ·intro i j hi _ hj h;rw [W.lineUp hi,hj];exact Yap _ h
theorem Wise.line_up {es:List Ent} (W:Wise es):∀ i,i<es.length->∀ x ∈ Zap es (some i),Up es i x:=by
 refine W.lineInd ?_ ?_
 ·intro x hx;rw [W.line W.obj] at hx;rcases Yav.1 hx with e|h
  ·rw [e];exact .refl _
  ·rw [show (⟨objC,none,[]⟩:Ent).up=none from rfl,Za6] at h;cases h
 ·intro i j hi _ hj ih x hx;rw [W.lineUp hi,hj] at hx;rcases Yav.1 hx with e|h
  ·rw [e];exact .refl _
  ·refine .step ?_ (ih x h);have he:=Yaa hi;rw [Zci he] at hj;exact ZbG he hj
theorem Zpp {es:List Ent} {x y:Nat} (h:Lup es x y):Up es x y:=by
 induction h with
 | refl=>exact .refl _
 | step h1 _ ih=>
  refine .step ?_ ih;unfold lkOf at h1;split at h1
  ·rename_i e he;exact Zcs he h1
  ·cases h1
theorem Wise.lk_itf {es:List Ent} (W:Wise es) {i k:Nat} (h:k ∈ lkOf es i):Zcn es k=true:=by
 unfold lkOf at h;split at h
 ·rename_i e he;exact W.lk i e he k h
 ·cases h
theorem Wise.lup_itf {es:List Ent} (W:Wise es) {i k:Nat} (h:Lup es i k) (hi:Zcn es i=true):Zcn es k=true:=
 h.inv (P:=fun x=>Zcn es x=true) (fun _ _ _ hd=>W.lk_itf hd) hi
theorem Wise.itf_up {es:List Ent} (W:Wise es) {i:Nat} (h:Zcn es i=true):∃ e,es[i]? = some e/\e.cls.itf=true/\e.up=some 0/\e.cls.flds=[]/\∀ m ∈ e.cls.mths,m.abs=true:=by
 unfold Zcn at h;split at h
 ·rename_i e he;exact ⟨e,he,h,W.itf i e he h⟩
 ·cases h
theorem Wise.mem_above {es:List Ent} (W:Wise es) {i:Nat} (hi:i<es.length) (x:Nat):x ∈ ZaE es (some i)↔x ∈ Zap es (some i)\/∃ d ∈ Zap es (some i),∃ k ∈ lkOf es d,Lup es k x:=by
 unfold ZaE ZcO;rw [Yao,Zgq (W.sh.mem (W.sh.line (some i) (fun j h=>by obtain rfl:=Yae h;exact hi)))]
theorem Wise.above_iff {es:List Ent} (W:Wise es) {i:Nat} (hi:i<es.length) (x:Nat):x ∈ ZaE es (some i)↔Up es i x:=by
 rw [W.mem_above hi];constructor
 ·rintro (h|⟨d,hd,k,hk,hl⟩)
  ·exact W.line_up i hi x h
  ·exact (W.line_up i hi d hd).trans (Zpp (.step hk hl))
 ·intro h;refine h.inv (P:=fun x=>x ∈ Zap es (some i)\/∃ d ∈ Zap es (some i),∃ k ∈ lkOf es d,Lup es k x) ?_ ?_
  ·intro x d hx hd;have hpar:∀ e,es[x]? = some e->e.up=some d\/d ∈ e.lk:=fun e he=>by
    rw [ZcK he] at hd;unfold Ent.par at hd;rcases Yao.1 hd with h1|h1
    ·exact .inl (by simpa using h1)
    ·exact .inr h1
   rcases hx with hx|⟨d0,hd0,k,hk,hl⟩
   ·obtain ⟨e,he⟩:=Zbt (W.sh.line (some i) (fun j h=>by obtain rfl:=Yae h;exact hi)) x hx;rcases hpar e he with h1|h1
    ·refine .inl ?_;have:∀ i,i<es.length->∀ x ∈ Zap es (some i),∀ e d,es[x]? = some e->e.up=some d->d ∈ Zap es (some i):=by
      refine W.lineInd ?_ ?_
      ·intro x hx e d he hd;rw [W.line W.obj,show (⟨objC,none,[]⟩:Ent).up=none from rfl,Za6] at hx;obtain rfl:=YaA.1 hx;rw [W.obj] at he;obtain rfl:=Yae he;cases hd
      ·intro i j hi _ hj ih x hx e d he hd;rw [W.lineUp hi,hj] at hx ⊢;rcases Yav.1 hx with e1|h1
       ·subst e1;rw [Zci he,hd] at hj;obtain rfl:=Yae hj;refine Yap _ ?_;rw [W.lineUp (W.upj x e d he hd)];exact Yal
       ·exact Yap _ (ih x h1 e d he hd)
     exact this i hi x hx e d he h1
    ·exact .inr ⟨x,hx,d,by rw [Zba he];exact h1,.refl _⟩
   ·have hit:=W.lup_itf hl (W.lk_itf hk);obtain ⟨e,he,_,hu,_⟩:=W.itf_up hit;rcases hpar e he with h1|h1
    ·rw [hu] at h1;obtain rfl:=Yae h1;exact .inl (W.zero_line hi)
    ·exact .inr ⟨d0,hd0,k,hk,hl.trans (.step (by rw [Zba he];exact h1) (.refl _))⟩
  ·refine .inl ?_;rw [W.lineUp hi];exact Yal
theorem Wise.line_lt {es:List Ent} (W:Wise es) {i:Nat} (hi:i<es.length):∀ d ∈ Zap es (some i),d<es.length:=fun d hd=>by
 obtain ⟨e,he⟩:=Zbt (W.sh.line (some i) (fun j h=>by obtain rfl:=Yae h;exact hi)) d hd;exact (Yag.1 he).1
theorem mem_fldsL {es:List Ent} {f:Fld}:∀ {L:List Nat},f ∈ Zbl es L↔∃ x ∈ L,f ∈ Zbh es x
 | []=>by simp [Zbl]
 | x :: l=>by
  rw [Zbl,Yao,mem_fldsL (L:=l)];constructor
  ·rintro (⟨y,hy,h⟩|h)
   ·exact ⟨y,Yap _ hy,h⟩
   ·exact ⟨x,Yal,h⟩
  ·rintro ⟨y,hy,h⟩;rcases Yav.1 hy with e|hy
   ·rw [e] at h;exact .inr h
   ·exact .inl ⟨y,hy,h⟩
theorem Wise.owner {es:List Ent} (W:Wise es) {i x:Nat} {m:Mth} {n:List UInt8} (hi:i<es.length) (h:ZbI es (some i) n=some (x,m)):x<es.length/\Up es i x/\m ∈ Zar es x/\m.name=n:=by
 obtain ⟨h1,h2⟩:=Zdb h;obtain ⟨h3,h4⟩:=ZgB h2;refine ⟨Zd0 W.sh (fun j hj=>by obtain rfl:=Yae hj;exact hi) x h1,(W.above_iff hi x).1 h1,h3,h4⟩
theorem Wise.above_added {es:List Ent} (W:Wise es) {i:Nat} (hi:i<es.length) {x:Nat} (h:x ∈ ZaE es (some i)):∃ d ∈ Zap es (some i),x ∈ Zau es d:=by
 rcases (W.mem_above hi x).1 h with h1|⟨d,hd,hk⟩
 ·exact ⟨x,h1,Yal⟩
 ·refine ⟨d,hd,Yap _ ?_⟩;have he:=Yaa (W.line_lt hi d hd);exact (ZnU (by rw [Zba he];exact W.sh.deep d _ he) x).2 hk
theorem Wise.above_step {es:List Ent} (W:Wise es) {i j:Nat} (hi:i<es.length) (hj:upAt es i=some j) {x:Nat} (h:x ∈ ZaE es (some i)):x ∈ Zau es i\/x ∈ ZaE es (some j):=by
 obtain ⟨d,hd,hx⟩:=W.above_added hi h;rw [W.lineUp hi,hj] at hd;rcases Yav.1 hd with e|h1
 ·rw [e] at hx;exact .inl hx
 ·exact .inr (Zcy W.sh (fun k hk=>by obtain rfl:=Yae hk;exact W.upAt_lt hj) h1 hx)
theorem Wise.above0 {es:List Ent} (W:Wise es) {x:Nat} (h:x ∈ ZaE es (some 0)):x=0:=Zq1 ((W.above_iff (by have:=W.pos;omega) x).1 h) W.par0
theorem Wise.mths0 {es:List Ent} (W:Wise es):Zar es 0=[]:=Zcg W.obj
theorem Wise.signs {es:List Ent} (W:Wise es):∀ i,i<es.length->(∀ d ∈ Zap es (some i),ZaL es d=false)->∀ n,∃ c,∀ y ∈ ZaE es (some i),∀ m ∈ Zar es y,m.name=n->ZaJ m=c:=by
 refine W.lineInd ?_ ?_
 ·intro _ n;refine ⟨[],fun y hy m hm _=>?_⟩;rw [W.above0 hy,W.mths0] at hm;cases hm
 ·intro i j hi _ hj ih hall n;have hd:=hall i (by rw [W.lineUp hi];exact Yal);have ih:=ih (fun d hd=>hall d (by rw [W.lineUp hi,hj];exact Yap _ hd));unfold ZaL at hd;rw [YaT] at hd;have key:∀ y ∈ Zau es i,∀ m ∈ Zar es y,m.name=n->∃ m0,(msE es (Zau es i)).find? (fun k=>k.name == n)=some m0/\ZaJ m=ZaJ (inhE es i m0):=by
   intro y hy m hm hn;have hms:m ∈ msE es (Zau es i):=YbB.2 ⟨y,hy,hm⟩;have h1:=hd m hms;have h2:((msE es (Zau es i)).find? (fun k=>k.name == n)).isSome=true:=List.find?_isSome.2 ⟨m,hms,by rw [hn];exact Ybf _⟩;obtain ⟨m0,h3⟩:=YaM.1 h2;refine ⟨m0,h3,?_⟩;unfold clash knOf at h1;rw [hn,h3] at h1
   simpa using h1
  cases hf:ZbI es (some j) n with
  | some r=>
   obtain ⟨c,hc⟩:=ih n;have hr:=W.owner (W.upAt_lt hj) hf;have hcr:=hc r.1 (Zdb hf).1 r.2 hr.2.2.1 hr.2.2.2;refine ⟨c,fun y hy m hm hn=>?_⟩;rcases W.above_step hi hj hy with h1|h1
   ·obtain ⟨m0,h2,h3⟩:=key y h1 m hm hn;have h4:m0.name=n:=by simpa using Ycq h2
    rw [h3,←hcr];unfold inhE;rw [hj,h4,hf];rfl
   ·exact hc y h1 m hm hn
  | none=>
   refine ⟨match (msE es (Zau es i)).find? (fun k=>k.name == n) with|some m0=>ZaJ m0|none=>[],fun y hy m hm hn=>?_⟩;rcases W.above_step hi hj hy with h1|h1
   ·obtain ⟨m0,h2,h3⟩:=key y h1 m hm hn;have h4:m0.name=n:=by simpa using Ycq h2
    rw [h2,h3];unfold inhE;rw [hj,h4,hf];rfl
   ·have:=Zdc h1 hm;rw [hn,hf] at this;cases this
def Whole (es:List Ent) (i:Nat):Prop:=Zcl es i=false->∀ y ∈ ZaE es (some i),∀ m ∈ Zar es y,absM es i m.name=false
theorem ZeR {es:List Ent} {i:Nat} {n:List UInt8} {r:Nat × Mth} (h:ZbI es (some i) n=some r):absM es i n=r.2.abs:=by unfold absM;rw [h]
theorem Wise.whole {es:List Ent} (W:Wise es) {i:Nat} (hi:i<es.length) (hla:∀ d ∈ Zap es (some i),Zb0 es d=false):Whole es i:=by
 have key:∀ i,i<es.length->(∀ d ∈ Zap es (some i),Zb0 es d=false)->∀ d ∈ Zap es (some i),Whole es d:=by
  refine W.lineInd ?_ ?_
  ·intro _ d hd;rw [W.line W.obj,show (⟨objC,none,[]⟩:Ent).up=none from rfl,Za6] at hd;rw [YaA.1 hd];intro _ y hy m hm;rw [W.above0 hy,W.mths0] at hm;cases hm
  ·intro i j hi _ hj ih hall d hd;have hlk:=hall i (by rw [W.lineUp hi];exact Yal);have ih:=ih (fun d hd=>hall d (by rw [W.lineUp hi,hj];exact Yap _ hd));rw [W.lineUp hi,hj] at hd;rcases Yav.1 hd with e|h1
   ·subst e;intro ha y hy m hm;obtain ⟨r,hr⟩:=YaM.1 (Zdc hy hm);obtain ⟨x,m'⟩:=r;rw [ZeR hr];cases hab:m'.abs with
    | false=>rfl
    | true=>
     exfalso
     have hl:=hlk;unfold Zb0 at hl;rw [ha] at hl;simp only [Bool.not_false,Yax,Ybs] at hl;obtain ⟨hl1,hl2⟩:=hl;rw [hj] at hl2;obtain ⟨hx,_,hmx,hnx⟩:=W.owner hi hr;have hbad:∀ z,(Zau es z).any (ZbT es d)=false->x ∉ Zau es z:=by
      intro z hz hxz;have h2:=(YaT.1 hz) x hxz;refine h2 ?_;unfold ZbT;refine YaQ.2 ⟨m',hmx,?_⟩;rw [hnx,ZeR hr];exact hab
     have hnot:∀ z,z=d\/z ∈ (Zap es (some j)).takeWhile (Zcl es)->x ∉ Zau es z:=by
      intro z hz;rcases hz with e|hz
      ·rw [e];exact hbad d hl1
      ·refine hbad z ?_;have:=(YaT.1 hl2) z hz
       simpa using this
     obtain ⟨z,hz,hxz⟩:=W.above_added hi (Zdb hr).1;rw [W.lineUp hi,hj] at hz;have hsplit:=List.takeWhile_append_dropWhile (p:=Zcl es) (l:=Zap es (some j));have hz2:z ∈ (Zap es (some j)).dropWhile (Zcl es):=by
      rcases Yav.1 hz with e|hz
      ·exact absurd hxz (hnot z (.inl e))
      ·rw [←hsplit] at hz;rcases Yao.1 hz with hz|hz
       ·exact absurd hxz (hnot z (.inr hz))
       ·exact hz
     cases hL2:(Zap es (some j)).dropWhile (Zcl es) with
     | nil=>rw [hL2] at hz2;cases hz2
     | cons d0 L3=>
      have hd0:Zcl es d0=false:=by
       have:=List.head?_dropWhile_not (Zcl es) (Zap es (some j));rw [hL2] at this
       simpa using this
      have hd0l:d0 ∈ Zap es (some j):=by rw [←hsplit,hL2];exact YaZ _ Yal
      have hlt0:=W.line_lt (W.upAt_lt hj) d0 hd0l;have hcut:Zap es (some d0)=d0 :: L3:=by
       have hch:=W.sh.line (some j) (fun k hk=>by obtain rfl:=Yae hk;exact W.upAt_lt hj);have:∀ (L1 L2:List Nat) (o:Option Nat),Zdw es (L1++d0 :: L2) o->Zdw es (d0 :: L2) (some d0):=by
        intro L1;induction L1 with
        | nil=>intro L2 o h;exact ⟨rfl,h.2⟩
        | cons a l ihl=>intro L2 o h;obtain ⟨_,e,_,hc⟩:=h;exact ihl L2 _ hc
       refine ZeS (W.sh.line (some d0) (fun k hk=>by obtain rfl:=Yae hk;exact hlt0)) (this ((Zap es (some j)).takeWhile (Zcl es)) L3 (some j) ?_);rw [←hL2,hsplit];exact hch
      have hxab:x ∈ ZaE es (some d0):=Zcy W.sh (fun k hk=>by obtain rfl:=Yae hk;exact hlt0) (by rw [hcut,←hL2];exact hz2) hxz;have hq:=ih d0 hd0l hd0 x hxab m' hmx;obtain ⟨r0,hr0⟩:=YaM.1 (Zdc hxab hmx);rw [ZeR hr0] at hq
      -- the first of the line that has it
      have hr1:=hr;rw [←hnx] at hr1;have hr2:=hr0;unfold ZbI ZaE ZcO at hr1 hr2;rw [Ybb] at hr1 hr2;have hline:Zap es (some d)=(d :: (Zap es (some j)).takeWhile (Zcl es))++(d0 :: L3):=by rw [W.lineUp hi,hj,List.cons_append,←hL2,hsplit]
      rw [hline,Ybb] at hr1;rw [hcut] at hr2;cases hA:(d :: (Zap es (some j)).takeWhile (Zcl es)).findSome? (fun x=>(ownM es x m'.name).map fun m=>(x,m)) with
      | some q=>
       rw [hA] at hr1;have:q=(x,m'):=by simpa using hr1
       subst this;obtain ⟨l1,a,l2,g1,g2,_⟩:=Ych.1 hA;obtain ⟨_,_,g4⟩:=YaU.1 g2;have g5:a=x:=Ya5 Prod.fst g4;subst g5;refine hnot a ?_ Yal;have:a ∈ d :: (Zap es (some j)).takeWhile (Zcl es):=by rw [g1];simp
       rcases Yav.1 this with e|h
       ·exact .inl e
       ·exact .inr h
      | none=>
       rw [hA] at hr1;cases hB:(d0 :: L3).findSome? (fun x=>(ownM es x m'.name).map fun m=>(x,m)) with
       | some q=>
        rw [hB] at hr1 hr2;have e1:q=(x,m'):=by simpa using hr1
        have e2:q=r0:=by simpa using hr2
        rw [←e2,e1] at hq;rw [hab] at hq;cases hq
       | none=>
        rw [hB] at hr2;rw [Ybx] at hr2;obtain ⟨l1,a,l2,g1,g2,_⟩:=Ych.1 hr2;obtain ⟨mm,g3,g4⟩:=YaU.1 g2;have ga:a ∈ ifsL es es.length (d0 :: L3):=by rw [g1];simp
        rw [←hcut] at ga;obtain ⟨dd,_,k,hk,hlu⟩:=(Zgq (W.sh.mem (W.sh.line (some d0) (fun j h=>by obtain rfl:=Yae h;exact hlt0))) a).1 ga;obtain ⟨e,he,_,_,_,hall⟩:=W.itf_up (W.lup_itf hlu (W.lk_itf hk));have hmm:=(ZgB g3).1;rw [Zcg he] at hmm;have:=hall mm hmm;have e3:r0.2=mm:=by rw [←g4]
        rw [e3,this] at hq;cases hq
   ·exact ih d h1
 exact key i hi hla i (by rw [W.lineUp hi];exact Yal)
inductive Thru (E:Nat->Nat->Prop) (k:Nat):Nat->Nat->Prop
 | base {i j:Nat}:E i j->Thru E k i j
 | comp {i m j:Nat}:Thru E k i m->m<k->Thru E k m j->Thru E k i j
inductive Plus (E:Nat->Nat->Prop):Nat->Nat->Prop
 | base {i j:Nat}:E i j->Plus E i j
 | comp {i m j:Nat}:Plus E i m->Plus E m j->Plus E i j
theorem Thru.split {E:Nat->Nat->Prop} {k i j:Nat} (h:Thru E (k+1) i j):Thru E k i j\/(Thru E k i k/\Thru E k k j):=by
 induction h with
 | base h=>exact .inl (.base h)
 | @comp i m j _ hm _ ih1 ih2=>
  rcases YaB m k with h|h
  ·rcases ih1 with a|⟨a,b⟩ <;> rcases ih2 with c|⟨c,d⟩
   ·exact .inl (.comp a h c)
   ·exact .inr ⟨.comp a h c,d⟩
   ·exact .inr ⟨a,.comp b h c⟩
   ·exact .inr ⟨a,d⟩
  ·have:m=k:=by omega
   subst this;refine .inr ⟨?_,?_⟩
   ·rcases ih1 with a|⟨a,_⟩ <;> exact a
   ·rcases ih2 with c|⟨_,c⟩ <;> exact c
theorem Thru.zero {E:Nat->Nat->Prop} {i j:Nat} (h:Thru E 0 i j):E i j:=by
 cases h with
 | base h=>exact h
 | comp _ h _=>omega
theorem Plus.thru {E:Nat->Nat->Prop} {n:Nat} (hE:∀ i j,E i j->j<n) {i j:Nat} (h:Plus E i j):Thru E n i j/\j<n:=by
 induction h with
 | base h=>exact ⟨.base h,hE _ _ h⟩
 | comp _ _ ih1 ih2=>exact ⟨.comp ih1.1 ih1.2 ih2.1,ih2.2⟩
def updM (M:Nat->Nat->Bool) (i j:Nat) (b:Bool):Nat->Nat->Bool:=fun a c=>if a=i/\c=j then b else M a c
theorem ZnP (M:Nat->Nat->Bool) (i j:Nat) (b:Bool):updM M i j b i j=b:=by unfold updM;rw [YaC ⟨rfl,rfl⟩]
structure War (E:Nat->Nat->Prop) (n k i j:Nat) (M:Nat->Nat->Bool):Prop where
 sound:∀ a b,a<n->b<n->M a b=true->Plus E a b
 old:∀ a b,a<n->b<n->Thru E k a b->M a b=true
 rows:∀ a b,a<i->a<n->b<n->Thru E (k+1) a b->M a b=true
 cells:∀ b,b<j->b<n->Thru E (k+1) i b->M i b=true
theorem War.step {E:Nat->Nat->Prop} {n k i j:Nat} {M:Nat->Nat->Bool} (h:War E n k i j M) (hi:i<n) (hk:k<n) (hj:j<n):War E n k i (j+1) (updM M i j (M i j || (M i k && M k j))):=by
 have hup:∀ a b,M a b=true->updM M i j (M i j || (M i k && M k j)) a b=true:=by
  intro a b hab;unfold updM;split
  ·rename_i e;obtain ⟨rfl,rfl⟩:=e;rw [hab];rfl
  ·exact hab
 refine ⟨fun a b ha hb hab=>?_,fun a b ha hb ht=>hup a b (h.old a b ha hb ht),fun a b hai ha hb ht=>hup a b (h.rows a b hai ha hb ht),fun b hbj hb ht=>?_⟩
 ·unfold updM at hab;split at hab
  ·rename_i e
   obtain ⟨rfl,rfl⟩:=e;rw [YaX,Yar] at hab;rcases hab with h1|⟨h1,h2⟩
   ·exact h.sound _ _ ha hb h1
   ·exact .comp (h.sound _ _ ha hk h1) (h.sound _ _ hk hb h2)
  ·exact h.sound a b ha hb hab
 ·rcases YaB b j with h1|h1
  ·exact hup i b (h.cells b h1 hb ht)
  ·have:b=j:=by omega
   subst this;rw [ZnP,YaX,Yar];rcases ht.split with h2|⟨h2,h3⟩
   ·exact .inl (h.old i b hi hb h2)
   ·exact .inr ⟨h.old i k hi hk h2,h.old k b hk hb h3⟩
theorem War.row {E:Nat->Nat->Prop} {n k i:Nat} {M:Nat->Nat->Bool} (h:War E n k i n M):War E n k (i+1) 0 M:=
 ⟨h.sound,h.old,fun a b hai ha hb ht=>by
  rcases YaB a i with h1|h1
  ·exact h.rows a b h1 ha hb ht
  ·have:a=i:=by omega
   subst this;exact h.cells b hb hb ht,fun b hb=>by omega⟩
theorem War.layer {E:Nat->Nat->Prop} {n k:Nat} {M:Nat->Nat->Bool} (h:War E n k n 0 M):War E n (k+1) 0 0 M:=
 ⟨h.sound,fun a b ha hb ht=>h.rows a b ha ha hb ht,fun a b h0=>by omega,fun b hb=>by omega⟩
theorem War.start {E:Nat->Nat->Prop} {n:Nat} {M:Nat->Nat->Bool} (h:∀ a b,a<n->b<n->(M a b=true↔E a b)):War E n 0 0 0 M:=
 ⟨fun a b ha hb hab=>.base ((h a b ha hb).1 hab),fun a b ha hb ht=>(h a b ha hb).2 ht.zero,fun a b h0=>by omega,fun b hb=>by omega⟩
theorem War.done {E:Nat->Nat->Prop} {n:Nat} {M:Nat->Nat->Bool} (h:War E n n 0 0 M) (hE:∀ i j,E i j->j<n) (a b:Nat) (ha:a<n) (hb:b<n):M a b=true↔Plus E a b:=
 ⟨h.sound a b ha hb,fun hp=>h.old a b ha hb (hp.thru hE).1⟩
def Za2 (L:List Cls) (n:List UInt8):Option Nat:=L.findIdx? (fun c=>c.name == n)
def StepR (L:List Cls) (i j:Nat):Prop:=∃ c,L[i]? = some c/\∃ n ∈ c.sup :: c.like,Za2 L n=some j
theorem StepR.lt {L:List Cls} {i j:Nat} (h:StepR L i j):j<L.length:=by
 obtain ⟨c,_,n,_,h⟩:=h;unfold Za2 at h;exact (YaV.1 h).1
section
variable {es es':List Ent} {π:Nat->Nat}
end
theorem Lined.uniq0 {cs:List Cls} (h:Lined cs):Uniq (Zat cs):=by
 rw [←ZcS];exact Zcm h.names _ (Yac _)
theorem ZdH (es:List Ent) (n:List UInt8):Zad es n=Za2 (es.map Ent.cls) n:=by
 unfold Zad Za2;rw [List.findIdx?_map];rfl
def allR (cs:List Cls):List Cls:=givenL++cs
theorem Zf4:startL.map Ent.cls=givenL:=by
 unfold startL givenL;rw [YbJ,YbJ,YbX];rfl
theorem ZcH (cs:List Cls):(newT cs).map Ent.cls=allR cs:=by
 unfold newT allR;rw [Ya4,Zf4,YbX]
 congr 1
 conv=>rhs;rw [←List.map_id cs]
 rfl
theorem Lined.step {cs:List Cls} (h:Lined cs) (i j:Nat):StepR (allR cs) i j↔j ∈ parE (newT cs) i:=by
 have hf:∀ n,Za2 (allR cs) n=Zad (Zat cs) n:=fun n=>by rw [←ZcH,←ZdH,Zbo (Zb8 cs)]
 unfold StepR;have hat:(allR cs)[i]? = ((newT cs)[i]?).map Ent.cls:=by rw [←ZcH,Yau]
 rw [hat];cases he:(newT cs)[i]? with
 | none=>
  constructor
  ·rintro ⟨c,hc,_⟩;cases hc
  ·intro hd;unfold parE at hd;rw [he] at hd;cases hd
 | some e=>
  rw [ZcK he];simp only [YbS,Yba];rcases Zbb he with ⟨h1,h2⟩|⟨h1,c,h2,rfl⟩
  ·have h3:∀ i,i<8->∀ e,startL[i]? = some e->(e.cls.like=[]/\e.lk=[])/\(e.up=none/\e.cls.sup=[]\/e.up=some 0/\e.cls.sup=objL\/e.up=some 1/\e.cls.sup=ZbQ):=by
    intro i hi e he
    match i,hi,he with
    | 0,_,he=>obtain rfl:=Yae he;exact ⟨⟨rfl,rfl⟩,.inl ⟨rfl,rfl⟩⟩
    | 1,_,he=>obtain rfl:=Yae he;exact ⟨⟨rfl,rfl⟩,.inr (.inl ⟨rfl,rfl⟩)⟩
    | 2,_,he=>obtain rfl:=Yae he;exact ⟨⟨rfl,rfl⟩,.inr (.inr ⟨rfl,rfl⟩)⟩
    | 3,_,he=>obtain rfl:=Yae he;exact ⟨⟨rfl,rfl⟩,.inr (.inr ⟨rfl,rfl⟩)⟩
    | 4,_,he=>obtain rfl:=Yae he;exact ⟨⟨rfl,rfl⟩,.inr (.inr ⟨rfl,rfl⟩)⟩
    | 5,_,he=>obtain rfl:=Yae he;exact ⟨⟨rfl,rfl⟩,.inr (.inr ⟨rfl,rfl⟩)⟩
    | 6,_,he=>obtain rfl:=Yae he;exact ⟨⟨rfl,rfl⟩,.inr (.inr ⟨rfl,rfl⟩)⟩
    | 7,_,he=>obtain rfl:=Yae he;exact ⟨⟨rfl,rfl⟩,.inr (.inr ⟨rfl,rfl⟩)⟩
    | k+8,hk,_=>omega
   obtain ⟨⟨g1,g2⟩,g3⟩:=h3 i h1 e h2;have hu:=h.uniq0;have p0:Za2 (allR cs) objL=some 0:=by rw [hf];exact hu 0 _ (by rw [Zdj (by omega)];rfl)
   have p1:Za2 (allR cs) ZbQ=some 1:=by rw [hf];exact hu 1 _ (by rw [Zdj (by omega)];rfl)
   have pn:Za2 (allR cs) []=none:=by
    rw [hf];cases hp:Zad (Zat cs) [] with
    | none=>rfl
    | some k=>
     exfalso
     rw [←Zbo (Zb8 cs)] at hp;obtain ⟨e2,q1,q2⟩:=Zds hp;have hc:Zal e2.cls.name=true:=by
      rcases Zbb q1 with ⟨h1,h2⟩|⟨h1,c,h2,rfl⟩
      ·exact (ZaV k h1 e2 h2).1
      ·exact (h.good c (Yaf h2)).name
     rw [q2] at hc;exact absurd hc (by decide)
   unfold Ent.par;rw [g2,Ya2];rcases g3 with ⟨g3,g4⟩|⟨g3,g4⟩|⟨g3,g4⟩
   ·constructor
    ·rintro ⟨c,rfl,n,hn,hq⟩;rw [g1,g4] at hn;rw [YaA.1 hn,pn] at hq;cases hq
    ·intro hd;rw [g3] at hd;cases hd
   ·constructor
    ·rintro ⟨c,rfl,n,hn,hq⟩;rw [g1,g4] at hn;rw [YaA.1 hn,p0] at hq;rw [g3,←Yae hq];simp
    ·intro hd;rw [g3] at hd;refine ⟨_,rfl,objL,by rw [g4];exact Yal,?_⟩;rw [p0,show j=0 by simpa using hd]
   ·constructor
    ·rintro ⟨c,rfl,n,hn,hq⟩;rw [g1,g4] at hn;rw [YaA.1 hn,p1] at hq;rw [g3,←Yae hq];simp
    ·intro hd;rw [g3] at hd;refine ⟨_,rfl,ZbQ,by rw [g4];exact Yal,?_⟩;rw [p1,show j=1 by simpa using hd]
  ·have hm:=Yaf h2;have hups:=h.ups c hm;have hlk:=h.likes c hm;obtain ⟨u,hu⟩:=YaM.1 hups;have hup:=(Zh3 hu).1;show _↔j ∈ Ent.par ⟨c,upE (Zat cs) c.sup,Zbw (Zat cs) c.like⟩
   unfold Ent.par;rw [Yao];show (∃ c',c=c'/\∃ n ∈ c'.sup :: c'.like,Za2 (allR cs) n=some j)↔j ∈ (upE (Zat cs) c.sup).toList\/j ∈ Zbw (Zat cs) c.like
   rw [hu];constructor
   ·rintro ⟨c',rfl,n,hn,hq⟩;rw [hf] at hq;rcases Yav.1 hn with e|hn
    ·rw [e,hup] at hq;rw [Yae hq];simp
    ·refine .inr (Ya6.2 ⟨n,hn,?_⟩);obtain ⟨k,hk⟩:=YaM.1 (YaE.1 hlk n hn);rw [hk];have:=(ZcG hk).1;rw [hq] at this;exact (Yae this).symm
   ·rintro (hd|hd)
    ·refine ⟨c,rfl,c.sup,Yal,?_⟩;rw [hf,hup,show j=u by simpa using hd]
    ·obtain ⟨n,hn,hq⟩:=Ya6.1 (show j ∈ c.like.map fun n=>(Zce (Zat cs) n).getD 0 from hd);refine ⟨c,rfl,n,Yap _ hn,?_⟩;obtain ⟨k,hk⟩:=YaM.1 (YaE.1 hlk n hn);rw [hk] at hq;have hq:k=j:=hq;rw [hf,(ZcG hk).1,hq]
theorem ZhP {es:List Ent} {E:Nat->Nat->Prop} (hE:∀ i j,E i j↔j ∈ parE es i) {i j:Nat}:Plus E i j↔Over es i j:=by
 constructor
 ·intro h;induction h with
  | base h=>exact .one ((hE _ _).1 h)
  | comp _ _ ih1 ih2=>exact ih1.then ih2.up
 ·rintro ⟨d,hd,hu⟩;have key:∀ {x y:Nat},Up es x y->∀ i,x ∈ parE es i->Plus E i y:=by
   intro x y h;induction h with
   | refl x=>intro i hi;exact .base ((hE _ _).2 hi)
   | step h1 _ ih=>intro i hi;exact .comp (.base ((hE _ _).2 hi)) (ih _ h1)
  exact key hu i hd
theorem ZfX {l:List UInt8} (h:ZbJ l=true) (hb:ZjQ l=true):Zaj l=true:=by
 have hd:=Zg2 h;unfold Zaj Zbe;rw [hd,Nat.mul_zero,Nat.sub_zero,YaJ,hb];rfl
theorem Wise.kindR {es:List Ent} (W:Wise es) (l:List UInt8):ZeI es l=(l == Zdq || (Zaj l && (ZaB (Zbe l) || (Zad es (Zbe l)).isSome))):=by
 unfold ZeI ZbY topL;cases hr:Zaj l with
 | true=>simp
 | false=>
  have hp:ZaB l=false:=by
   cases hp:ZaB l with
   | false=>rfl
   | true=>
    have:=ZfX (ZdV hp) (by unfold ZjQ;rw [hp];rfl);rw [hr] at this;cases this
  have hc:Zad es l=none:=by
   cases hq:Zad es l with
   | none=>rfl
   | some i=>
    obtain ⟨_,_,_,_,hc,_⟩:=W.place hq;have:=ZfX (Zbg hc) (by unfold ZjQ;rw [hc];simp);rw [hr] at this;cases this
  simp [hp,hc]
theorem Zb9 {b:Bool} (h:b=true->False):b=false:=by cases b with|false=>rfl|true=>exact (h rfl).elim
def mthZ:Value:=.agg #[.string ⟨#[]⟩,.slice none 0 0,.string ⟨#[]⟩,.bool false,.int .i64 0,.slice none 0 0,.slice none 0 0]
structure CV where
 val:Value
 sz:val.cells.size=8
 one:∀ u ∈ val.cells.toList,u.oneCell'=true
abbrev cvV (x:CV):Value:=x.val
abbrev CVR:Zao CV:=Flat cvV
theorem Zpr:Stays CVR:=Flat.stays _
theorem Zim {A:Nat->Prop} {w:World} {c:Cls} {v:Value} (h:ClsR A w c v):v.cells.size=8/\∀ u ∈ v.cells.toList,u.oneCell'=true:=by
 obtain ⟨_,_,_,rfl,⟨lo,lc,rfl⟩,⟨fo,fc,rfl⟩,⟨mo,mc,rfl⟩⟩:=ZbO h;refine ⟨rfl,fun u hu=>?_⟩;simp [Value.cells] at hu
 rcases hu with rfl|rfl|rfl|rfl|rfl|rfl|rfl|rfl <;> rfl
structure Vals (A:Nat->Prop) (w:World) (cs:List Cls) (vs:List CV):Prop where
 len:vs.length=cs.length
 each:∀ (k:Nat) (c:Cls),cs[k]? = some c->∃ u:CV,vs[k]? = some u/\ClsR A w c (cvV u)
theorem Zpd {A A':Nat->Prop} {w:World} {sv:Value} {cs:List Cls} {vs:List CV} (hv:Vals A w cs vs) (h:Src 8 CVR A' w sv vs):Src 8 ClsR Anyw w sv cs:=by
 rcases h with ⟨ao,cap,rfl,hn⟩|⟨b,o,cap,rfl,hk,hc⟩
 ·have:cs=[]:=YaY.1 (by rw [←hv.len,hn];rfl);exact .inl ⟨_,_,rfl,this⟩
 ·rw [hv.len] at hk ⊢;refine .inr ⟨b,o,cap,rfl,⟨trivial,hk.2⟩,fun k x hx=>?_⟩;obtain ⟨u,q1,q2⟩:=hv.each k x hx;obtain ⟨v,rfl,h2,h3⟩:=hc k u q1;exact ⟨_,ClsR.st.mono q2 (fun _ _ _=>trivial),h2,h3⟩
abbrev Zn2 (lo:Nat) (W:World) (v:Value) (l:List CV):Prop:=TRow 8 87 CVR lo W v l (l.map cvV)
