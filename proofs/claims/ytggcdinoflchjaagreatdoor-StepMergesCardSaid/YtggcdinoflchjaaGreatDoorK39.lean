/- laws -/
import Derived.Test.YtggcdinoflchjaaGreatDoorK37
set_option maxRecDepth 100000
set_option maxHeartbeats 16000000
namespace Go.Proofs.YtggcdinoflchjaaGreatDoor
open Go.RowKit
theorem ZcO {n:List UInt8} (h:Zak n=true):depN n=0:=by
 unfold depN;split
 ·exact ZdL (Zbf h)
 ·rfl
theorem ZcH:Zak Za1=false:=by decide
theorem Zrj {es:List Ent} {x y:Nat} (h:Up es x y) (k:parE es x=[]):y=x:=by
 cases h with
 | refl=>rfl
 | step h1 _=>rw [k] at h1;cases h1
theorem Wise.place {es:List Ent} (W:Wise es) {n:List UInt8} {i:Nat} (h:Zac es n=some i):i<es.length/\∃ e,es[i]? = some e/\e.cls.name=n/\Zak n=true/\nmE es i=n:=by
 obtain ⟨e,h1,h2⟩:=ZdE h;exact ⟨ZaU h,e,h1,h2,h2 ▸ W.cl i e h1,by rw [Ze2 h1,h2]⟩
theorem Wise.not_class {es:List Ent} (W:Wise es) {n:List UInt8} (h:Zak n=false):Zac es n=none:=by
 cases hp:Zac es n with
 | none=>rfl
 | some i=>obtain ⟨_,_,_,_,hc,_⟩:=W.place hp;rw [h] at hc;cases hc
theorem Wise.pos {es:List Ent} (W:Wise es):1<es.length:=(Yag.1 W.flt).1
theorem Wise.par0 {es:List Ent} (W:Wise es):parE es 0=[]:=ZcY W.obj
theorem Wise.upj {es:List Ent} (W:Wise es) (i:Nat) (e:Ent) (j:Nat) (he:es[i]? = some e) (hj:e.up=some j):j<es.length:=W.par i j (ZbR he hj)
theorem Wise.line {es:List Ent} (W:Wise es) {i:Nat} {e:Ent} (he:es[i]? = some e):Zal es (some i)=i :: Zal es e.up:=Zgq W.sh W.upj he
theorem Wise.lineUp {es:List Ent} (W:Wise es) {i:Nat} (hi:i<es.length):Zal es (some i)=i :: Zal es (upAt es i):=by
 have he:=Yaa hi;rw [W.line he,Zcv he]
theorem Wise.upAt_lt {es:List Ent} (W:Wise es) {i j:Nat} (h:upAt es i=some j):j<es.length:=by
 unfold upAt at h;cases he:es[i]? with
 | none=>rw [he] at h;cases h
 | some e=>rw [he] at h;exact W.upj i e j he h
theorem Wise.lineInd {es:List Ent} (W:Wise es) {P:Nat->Prop} (h0:P 0) (hs:∀ i j,i<es.length->i ≠ 0->upAt es i=some j->P j->P i):∀ i,i<es.length->P i:=by
 have key:∀ (L:List Nat) (i:Nat),ZdK es L (some i)->P i:=by
  intro L;induction L with
  | nil=>intro i h;cases h
  | cons x l ih=>
   intro i h;obtain ⟨hx,e,he,hc⟩:=h;obtain rfl:=Yae hx;by_cases hi:i=0
   ·rw [hi];exact h0
   ·obtain ⟨j,hj⟩:=W.up i e he hi;rw [hj] at hc;exact hs i j (Yag.1 he).1 hi (by rw [Zcv he];exact hj) (ih j hc)
 exact fun i hi=>key _ i (W.sh.line (some i) (fun j h=>by obtain rfl:=Yae h;exact hi))
theorem Wise.zero_line {es:List Ent} (W:Wise es) {i:Nat} (hi:i<es.length):0 ∈ Zal es (some i):=by
 refine W.lineInd (P:=fun i=>0 ∈ Zal es (some i)) ?_ ?_ i hi
 ·rw [W.line W.obj];exact Yak
 ·intro i j hi _ hj h;rw [W.lineUp hi,hj];exact Yas _ h
theorem Wise.line_up {es:List Ent} (W:Wise es):∀ i,i<es.length->∀ x ∈ Zal es (some i),Up es i x:=by
 refine W.lineInd ?_ ?_
 ·intro x hx;rw [W.line W.obj] at hx;rcases Yau.1 hx with e|h
  ·rw [e];exact .refl _
  ·rw [show (⟨objC,none,[]⟩:Ent).up=none from rfl,ZaC] at h;cases h
 ·intro i j hi _ hj ih x hx;rw [W.lineUp hi,hj] at hx;rcases Yau.1 hx with e|h
  ·rw [e];exact .refl _
  ·refine .step ?_ (ih x h);have he:=Yaa hi;rw [Zcv he] at hj;exact ZbR he hj
theorem ZpW {es:List Ent} {x y:Nat} (h:Lup es x y):Up es x y:=by
 induction h with
 | refl=>exact .refl _
 | step h1 _ ih=>
  refine .step ?_ ih;unfold lkOf at h1;split at h1
  ·rename_i e he;exact ZcF he h1
  ·cases h1
theorem Wise.lk_itf {es:List Ent} (W:Wise es) {i k:Nat} (h:k ∈ lkOf es i):ZcB es k=true:=by
 unfold lkOf at h;split at h
 ·rename_i e he;exact W.lk i e he k h
 ·cases h
theorem Wise.lup_itf {es:List Ent} (W:Wise es) {i k:Nat} (h:Lup es i k) (hi:ZcB es i=true):ZcB es k=true:=
 h.inv (P:=fun x=>ZcB es x=true) (fun _ _ _ hd=>W.lk_itf hd) hi
theorem Wise.itf_up {es:List Ent} (W:Wise es) {i:Nat} (h:ZcB es i=true):∃ e,es[i]? = some e/\e.cls.itf=true/\e.up=some 0/\e.cls.flds=[]/\∀ m ∈ e.cls.mths,m.abs=true:=by
 unfold ZcB at h;split at h
 ·rename_i e he;exact ⟨e,he,h,W.itf i e he h⟩
 ·cases h
theorem Wise.mem_above {es:List Ent} (W:Wise es) {i:Nat} (hi:i<es.length) (x:Nat):x ∈ ZaE es (some i)↔x ∈ Zal es (some i)\/∃ d ∈ Zal es (some i),∃ k ∈ lkOf es d,Lup es k x:=by
 unfold ZaE Zc2;rw [Yap,ZgU (W.sh.mem (W.sh.line (some i) (fun j h=>by obtain rfl:=Yae h;exact hi)))]
theorem Wise.above_iff {es:List Ent} (W:Wise es) {i:Nat} (hi:i<es.length) (x:Nat):x ∈ ZaE es (some i)↔Up es i x:=by
 rw [W.mem_above hi];constructor
 ·rintro (h|⟨d,hd,k,hk,hl⟩)
  ·exact W.line_up i hi x h
  ·exact (W.line_up i hi d hd).trans (ZpW (.step hk hl))
 ·intro h;refine h.inv (P:=fun x=>x ∈ Zal es (some i)\/∃ d ∈ Zal es (some i),∃ k ∈ lkOf es d,Lup es k x) ?_ ?_
  ·intro x d hx hd;have hpar:∀ e,es[x]? = some e->e.up=some d\/d ∈ e.lk:=fun e he=>by
    rw [ZcY he] at hd;unfold Ent.par at hd;rcases Yap.1 hd with h1|h1
    ·exact .inl (by simpa using h1)
    ·exact .inr h1
   rcases hx with hx|⟨d0,hd0,k,hk,hl⟩
   ·obtain ⟨e,he⟩:=Zbg (W.sh.line (some i) (fun j h=>by obtain rfl:=Yae h;exact hi)) x hx;rcases hpar e he with h1|h1
    ·refine .inl ?_;have:∀ i,i<es.length->∀ x ∈ Zal es (some i),∀ e d,es[x]? = some e->e.up=some d->d ∈ Zal es (some i):=by
      refine W.lineInd ?_ ?_
      ·intro x hx e d he hd;rw [W.line W.obj,show (⟨objC,none,[]⟩:Ent).up=none from rfl,ZaC] at hx;obtain rfl:=Yav.1 hx;rw [W.obj] at he;obtain rfl:=Yae he;cases hd
      ·intro i j hi _ hj ih x hx e d he hd;rw [W.lineUp hi,hj] at hx ⊢;rcases Yau.1 hx with e1|h1
       ·subst e1;rw [Zcv he,hd] at hj;obtain rfl:=Yae hj;refine Yas _ ?_;rw [W.lineUp (W.upj x e d he hd)];exact Yak
       ·exact Yas _ (ih x h1 e d he hd)
     exact this i hi x hx e d he h1
    ·exact .inr ⟨x,hx,d,by rw [Zbl he];exact h1,.refl _⟩
   ·have hit:=W.lup_itf hl (W.lk_itf hk);obtain ⟨e,he,_,hu,_⟩:=W.itf_up hit;rcases hpar e he with h1|h1
    ·rw [hu] at h1;obtain rfl:=Yae h1;exact .inl (W.zero_line hi)
    ·exact .inr ⟨d0,hd0,k,hk,hl.trans (.step (by rw [Zbl he];exact h1) (.refl _))⟩
  ·refine .inl ?_;rw [W.lineUp hi];exact Yak
theorem Wise.any_above {es:List Ent} (W:Wise es) {a b:List UInt8} (h:(ZaE es (Zac es a)).any (fun x=>some x == Zac es b)=true):∃ i j,Zac es a=some i/\Zac es b=some j/\Up es i j:=by
 obtain ⟨x,hx,he⟩:=YaN.1 h;have hb:Zac es b=some x:=(eq_of_beq he).symm;cases ha:Zac es a with
 | none=>
  rw [ha] at hx;unfold ZaE at hx;rw [ZaC] at hx;cases hx
 | some i=>
  rw [ha] at hx;exact ⟨i,x,rfl,hb,(W.above_iff (ZaU ha) x).1 hx⟩
inductive SubC (es:List Ent):List UInt8->List UInt8->Prop
 | same (a:List UInt8):SubC es a a
 | null (b:List UInt8):b ≠ Za1->Zas b=false->SubC es Za1 b
 | arr (a:List UInt8):a ≠ Za1->0<depN a->SubC es a objL
 | cls (a b:List UInt8) (i j:Nat):Zac es a=some i->Zac es b=some j->Up es i j->SubC es a b
theorem Wise.sub_case {es:List Ent} (W:Wise es) {a b:List UInt8}:subE es a b=true↔ZaK es a=true/\ZaK es b=true/\SubC es a b:=by
 unfold subE;simp only [Yat,YaS];constructor
 ·rintro ⟨h1,h2,h3⟩;refine ⟨h1,h2,?_⟩;by_cases hab:a=b
  ·rw [hab];exact .same b
  ·rcases h3 with h3|h3
   ·exact absurd (eq_of_beq h3) hab
   ·by_cases hn:a=Za1
    ·rw [YaA (by rw [hn];exact YaV _)] at h3;subst hn;exact .null b (fun e=>hab e.symm) (by simpa using h3)
    ·rw [Yaq (by simpa using hn)] at h3;split at h3
     ·rename_i hd
      obtain rfl:=eq_of_beq h3;exact .arr a hn hd
     ·obtain ⟨i,j,p,q,r⟩:=W.any_above h3;exact .cls a b i j p q r
 ·rintro ⟨h1,h2,h3⟩;refine ⟨h1,h2,?_⟩;cases h3 with
  | same=>exact .inl (YaV _)
  | null _ hn hp=>refine .inr ?_;rw [YaA (YaV _),hp];rfl
  | arr _ hn hd=>refine .inr ?_;rw [Yaq (by simpa using hn),YaA hd];exact YaV _
  | cls _ _ i j p q r=>
   refine .inr ?_;obtain ⟨hi,_,_,_,hc,_⟩:=W.place p;have hn:a ≠ Za1:=fun e=>by rw [e,ZcH] at hc;cases hc
   rw [Yaq (by simpa using hn),Yaq (by rw [ZcO hc];omega),p];exact YaN.2 ⟨j,(W.above_iff hi j).2 r,by rw [q];exact YaV _⟩
theorem Wise.sub_self {es:List Ent} (W:Wise es) {a:List UInt8} (h:ZaK es a=true):subE es a a=true:=W.sub_case.2 ⟨h,h,.same a⟩
theorem Wise.sub_kind {es:List Ent} (W:Wise es) {a b:List UInt8} (h:subE es a b=true):ZaK es a=true/\ZaK es b=true:=let ⟨h1,h2,_⟩:=W.sub_case.1 h;⟨h1,h2⟩
theorem Wise.line_lt {es:List Ent} (W:Wise es) {i:Nat} (hi:i<es.length):∀ d ∈ Zal es (some i),d<es.length:=fun d hd=>by
 obtain ⟨e,he⟩:=Zbg (W.sh.line (some i) (fun j h=>by obtain rfl:=Yae h;exact hi)) d hd;exact (Yag.1 he).1
theorem mem_fldsL {es:List Ent} {f:Fld}:∀ {L:List Nat},f ∈ Zbu es L↔∃ x ∈ L,f ∈ Zbq es x
 | []=>by simp [Zbu]
 | x :: l=>by
  rw [Zbu,Yap,mem_fldsL (L:=l)];constructor
  ·rintro (⟨y,hy,h⟩|h)
   ·exact ⟨y,Yas _ hy,h⟩
   ·exact ⟨x,Yak,h⟩
  ·rintro ⟨y,hy,h⟩;rcases Yau.1 hy with e|hy
   ·rw [e] at h;exact .inr h
   ·exact .inl ⟨y,hy,h⟩
theorem Wise.owner {es:List Ent} (W:Wise es) {i x:Nat} {m:Mth} {n:List UInt8} (hi:i<es.length) (h:ZbU es (some i) n=some (x,m)):x<es.length/\Up es i x/\m ∈ Zat es x/\m.name=n:=by
 obtain ⟨h1,h2⟩:=Zdm h;obtain ⟨h3,h4⟩:=Zg6 h2;refine ⟨Zeh W.sh (fun j hj=>by obtain rfl:=Yae hj;exact hi) x h1,(W.above_iff hi x).1 h1,h3,h4⟩
theorem Wise.above_added {es:List Ent} (W:Wise es) {i:Nat} (hi:i<es.length) {x:Nat} (h:x ∈ ZaE es (some i)):∃ d ∈ Zal es (some i),x ∈ Zaw es d:=by
 rcases (W.mem_above hi x).1 h with h1|⟨d,hd,hk⟩
 ·exact ⟨x,h1,Yak⟩
 ·refine ⟨d,hd,Yas _ ?_⟩;have he:=Yaa (W.line_lt hi d hd);exact (Zos (by rw [Zbl he];exact W.sh.deep d _ he) x).2 hk
theorem Wise.above_step {es:List Ent} (W:Wise es) {i j:Nat} (hi:i<es.length) (hj:upAt es i=some j) {x:Nat} (h:x ∈ ZaE es (some i)):x ∈ Zaw es i\/x ∈ ZaE es (some j):=by
 obtain ⟨d,hd,hx⟩:=W.above_added hi h;rw [W.lineUp hi,hj] at hd;rcases Yau.1 hd with e|h1
 ·rw [e] at hx;exact .inl hx
 ·exact .inr (ZcL W.sh (fun k hk=>by obtain rfl:=Yae hk;exact W.upAt_lt hj) h1 hx)
theorem Wise.above0 {es:List Ent} (W:Wise es) {x:Nat} (h:x ∈ ZaE es (some 0)):x=0:=Zrj ((W.above_iff (by have:=W.pos;omega) x).1 h) W.par0
theorem Wise.mths0 {es:List Ent} (W:Wise es):Zat es 0=[]:=Zct W.obj
theorem Wise.signs {es:List Ent} (W:Wise es):∀ i,i<es.length->(∀ d ∈ Zal es (some i),ZaO es d=false)->∀ n,∃ c,∀ y ∈ ZaE es (some i),∀ m ∈ Zat es y,m.name=n->ZaL m=c:=by
 refine W.lineInd ?_ ?_
 ·intro _ n;refine ⟨[],fun y hy m hm _=>?_⟩;rw [W.above0 hy,W.mths0] at hm;cases hm
 ·intro i j hi _ hj ih hall n;have hd:=hall i (by rw [W.lineUp hi];exact Yak);have ih:=ih (fun d hd=>hall d (by rw [W.lineUp hi,hj];exact Yas _ hd));unfold ZaO at hd;rw [YaU] at hd;have key:∀ y ∈ Zaw es i,∀ m ∈ Zat es y,m.name=n->∃ m0,(msE es (Zaw es i)).find? (fun k=>k.name == n)=some m0/\ZaL m=ZaL (inhE es i m0):=by
   intro y hy m hm hn;have hms:m ∈ msE es (Zaw es i):=YbB.2 ⟨y,hy,hm⟩;have h1:=hd m hms;have h2:((msE es (Zaw es i)).find? (fun k=>k.name == n)).isSome=true:=Yco.2 ⟨m,hms,by rw [hn];exact YaV _⟩;obtain ⟨m0,h3⟩:=YaL.1 h2;refine ⟨m0,h3,?_⟩;unfold clash knOf at h1;rw [hn,h3] at h1
   simpa using h1
  cases hf:ZbU es (some j) n with
  | some r=>
   obtain ⟨c,hc⟩:=ih n;have hr:=W.owner (W.upAt_lt hj) hf;have hcr:=hc r.1 (Zdm hf).1 r.2 hr.2.2.1 hr.2.2.2;refine ⟨c,fun y hy m hm hn=>?_⟩;rcases W.above_step hi hj hy with h1|h1
   ·obtain ⟨m0,h2,h3⟩:=key y h1 m hm hn;have h4:m0.name=n:=by simpa using Yb6 h2
    rw [h3,←hcr];unfold inhE;rw [hj,h4,hf];rfl
   ·exact hc y h1 m hm hn
  | none=>
   refine ⟨match (msE es (Zaw es i)).find? (fun k=>k.name == n) with|some m0=>ZaL m0|none=>[],fun y hy m hm hn=>?_⟩;rcases W.above_step hi hj hy with h1|h1
   ·obtain ⟨m0,h2,h3⟩:=key y h1 m hm hn;have h4:m0.name=n:=by simpa using Yb6 h2
    rw [h2,h3];unfold inhE;rw [hj,h4,hf];rfl
   ·have:=Zdn h1 hm;rw [hn,hf] at this;cases this
def Whole (es:List Ent) (i:Nat):Prop:=Zcy es i=false->∀ y ∈ ZaE es (some i),∀ m ∈ Zat es y,absM es i m.name=false
theorem Zfg {es:List Ent} {i:Nat} {n:List UInt8} {r:Nat × Mth} (h:ZbU es (some i) n=some r):absM es i n=r.2.abs:=by unfold absM;rw [h]
theorem Wise.whole {es:List Ent} (W:Wise es) {i:Nat} (hi:i<es.length) (hla:∀ d ∈ Zal es (some i),Zce es d=false):Whole es i:=by
 have key:∀ i,i<es.length->(∀ d ∈ Zal es (some i),Zce es d=false)->∀ d ∈ Zal es (some i),Whole es d:=by
  refine W.lineInd ?_ ?_
  ·intro _ d hd;rw [W.line W.obj,show (⟨objC,none,[]⟩:Ent).up=none from rfl,ZaC] at hd;rw [Yav.1 hd];intro _ y hy m hm;rw [W.above0 hy,W.mths0] at hm;cases hm
  ·intro i j hi _ hj ih hall d hd;have hlk:=hall i (by rw [W.lineUp hi];exact Yak);have ih:=ih (fun d hd=>hall d (by rw [W.lineUp hi,hj];exact Yas _ hd));rw [W.lineUp hi,hj] at hd;rcases Yau.1 hd with e|h1
   ·subst e;intro ha y hy m hm;obtain ⟨r,hr⟩:=YaL.1 (Zdn hy hm);obtain ⟨x,m'⟩:=r;rw [Zfg hr];cases hab:m'.abs with
    | false=>rfl
    | true=>
     exfalso
     have hl:=hlk;unfold Zce at hl;rw [ha] at hl;simp only [Bool.not_false,Yax,Ybk] at hl;obtain ⟨hl1,hl2⟩:=hl;rw [hj] at hl2;obtain ⟨hx,_,hmx,hnx⟩:=W.owner hi hr;have hbad:∀ z,(Zaw es z).any (Zb7 es d)=false->x ∉ Zaw es z:=by
      intro z hz hxz;have h2:=(YaU.1 hz) x hxz;refine h2 ?_;unfold Zb7;refine YaN.2 ⟨m',hmx,?_⟩;rw [hnx,Zfg hr];exact hab
     have hnot:∀ z,z=d\/z ∈ (Zal es (some j)).takeWhile (Zcy es)->x ∉ Zaw es z:=by
      intro z hz;rcases hz with e|hz
      ·rw [e];exact hbad d hl1
      ·refine hbad z ?_;have:=(YaU.1 hl2) z hz
       simpa using this
     obtain ⟨z,hz,hxz⟩:=W.above_added hi (Zdm hr).1;rw [W.lineUp hi,hj] at hz;have hsplit:=List.takeWhile_append_dropWhile (p:=Zcy es) (l:=Zal es (some j));have hz2:z ∈ (Zal es (some j)).dropWhile (Zcy es):=by
      rcases Yau.1 hz with e|hz
      ·exact absurd hxz (hnot z (.inl e))
      ·rw [←hsplit] at hz;rcases Yap.1 hz with hz|hz
       ·exact absurd hxz (hnot z (.inr hz))
       ·exact hz
     cases hL2:(Zal es (some j)).dropWhile (Zcy es) with
     | nil=>rw [hL2] at hz2;cases hz2
     | cons d0 L3=>
      have hd0:Zcy es d0=false:=by
       have:=List.head?_dropWhile_not (Zcy es) (Zal es (some j));rw [hL2] at this
       simpa using this
      have hd0l:d0 ∈ Zal es (some j):=by rw [←hsplit,hL2];exact Ya1 _ Yak
      have hlt0:=W.line_lt (W.upAt_lt hj) d0 hd0l;have hcut:Zal es (some d0)=d0 :: L3:=by
       have hch:=W.sh.line (some j) (fun k hk=>by obtain rfl:=Yae hk;exact W.upAt_lt hj);have:∀ (L1 L2:List Nat) (o:Option Nat),ZdK es (L1++d0 :: L2) o->ZdK es (d0 :: L2) (some d0):=by
        intro L1;induction L1 with
        | nil=>intro L2 o h;exact ⟨rfl,h.2⟩
        | cons a l ihl=>intro L2 o h;obtain ⟨_,e,_,hc⟩:=h;exact ihl L2 _ hc
       refine Zfh (W.sh.line (some d0) (fun k hk=>by obtain rfl:=Yae hk;exact hlt0)) (this ((Zal es (some j)).takeWhile (Zcy es)) L3 (some j) ?_);rw [←hL2,hsplit];exact hch
      have hxab:x ∈ ZaE es (some d0):=ZcL W.sh (fun k hk=>by obtain rfl:=Yae hk;exact hlt0) (by rw [hcut,←hL2];exact hz2) hxz;have hq:=ih d0 hd0l hd0 x hxab m' hmx;obtain ⟨r0,hr0⟩:=YaL.1 (Zdn hxab hmx);rw [Zfg hr0] at hq
      -- the first of the line that has it
      have hr1:=hr;rw [←hnx] at hr1;have hr2:=hr0;unfold ZbU ZaE Zc2 at hr1 hr2;rw [Yba] at hr1 hr2;have hline:Zal es (some d)=(d :: (Zal es (some j)).takeWhile (Zcy es))++(d0 :: L3):=by rw [W.lineUp hi,hj,List.cons_append,←hL2,hsplit]
      rw [hline,Yba] at hr1;rw [hcut] at hr2;cases hA:(d :: (Zal es (some j)).takeWhile (Zcy es)).findSome? (fun x=>(ownM es x m'.name).map fun m=>(x,m)) with
      | some q=>
       rw [hA] at hr1;have:q=(x,m'):=by simpa using hr1
       subst this;obtain ⟨l1,a,l2,g1,g2,_⟩:=Ycl.1 hA;obtain ⟨_,_,g4⟩:=YaW.1 g2;have g5:a=x:=Ya5 Prod.fst g4;subst g5;refine hnot a ?_ Yak;have:a ∈ d :: (Zal es (some j)).takeWhile (Zcy es):=by rw [g1];simp
       rcases Yau.1 this with e|h
       ·exact .inl e
       ·exact .inr h
      | none=>
       rw [hA] at hr1;cases hB:(d0 :: L3).findSome? (fun x=>(ownM es x m'.name).map fun m=>(x,m)) with
       | some q=>
        rw [hB] at hr1 hr2;have e1:q=(x,m'):=by simpa using hr1
        have e2:q=r0:=by simpa using hr2
        rw [←e2,e1] at hq;rw [hab] at hq;cases hq
       | none=>
        rw [hB] at hr2;rw [Ybw] at hr2;obtain ⟨l1,a,l2,g1,g2,_⟩:=Ycl.1 hr2;obtain ⟨mm,g3,g4⟩:=YaW.1 g2;have ga:a ∈ ifsL es es.length (d0 :: L3):=by rw [g1];simp
        rw [←hcut] at ga;obtain ⟨dd,_,k,hk,hlu⟩:=(ZgU (W.sh.mem (W.sh.line (some d0) (fun j h=>by obtain rfl:=Yae h;exact hlt0))) a).1 ga;obtain ⟨e,he,_,_,_,hall⟩:=W.itf_up (W.lup_itf hlu (W.lk_itf hk));have hmm:=(Zg6 g3).1;rw [Zct he] at hmm;have:=hall mm hmm;have e3:r0.2=mm:=by rw [←g4]
        rw [e3,this] at hq;cases hq
   ·exact ih d h1
 exact key i hi hla i (by rw [W.lineUp hi];exact Yak)
inductive Thru (E:Nat->Nat->Prop) (k:Nat):Nat->Nat->Prop
 | base {i j:Nat}:E i j->Thru E k i j
 | comp {i m j:Nat}:Thru E k i m->m<k->Thru E k m j->Thru E k i j
inductive Plus (E:Nat->Nat->Prop):Nat->Nat->Prop
 | base {i j:Nat}:E i j->Plus E i j
 | comp {i m j:Nat}:Plus E i m->Plus E m j->Plus E i j
theorem Thru.split {E:Nat->Nat->Prop} {k i j:Nat} (h:Thru E (k+1) i j):Thru E k i j\/(Thru E k i k/\Thru E k k j):=by
 induction h with
 | base h=>exact .inl (.base h)
 | @comp i m j _ hm _ ih1 ih2=>
  rcases YaE m k with h|h
  ·rcases ih1 with a|⟨a,b⟩ <;> rcases ih2 with c|⟨c,d⟩
   ·exact .inl (.comp a h c)
   ·exact .inr ⟨.comp a h c,d⟩
   ·exact .inr ⟨a,.comp b h c⟩
   ·exact .inr ⟨a,d⟩
  ·have:m=k:=by omega
   subst this;refine .inr ⟨?_,?_⟩
   ·rcases ih1 with a|⟨a,_⟩ <;> exact a
   ·rcases ih2 with c|⟨_,c⟩ <;> exact c
theorem Thru.zero {E:Nat->Nat->Prop} {i j:Nat} (h:Thru E 0 i j):E i j:=by
 cases h with
 | base h=>exact h
 | comp _ h _=>omega
theorem Plus.thru {E:Nat->Nat->Prop} {n:Nat} (hE:∀ i j,E i j->j<n) {i j:Nat} (h:Plus E i j):Thru E n i j/\j<n:=by
 induction h with
 | base h=>exact ⟨.base h,hE _ _ h⟩
 | comp _ _ ih1 ih2=>exact ⟨.comp ih1.1 ih1.2 ih2.1,ih2.2⟩
def updM (M:Nat->Nat->Bool) (i j:Nat) (b:Bool):Nat->Nat->Bool:=fun a c=>if a=i/\c=j then b else M a c
theorem Zon (M:Nat->Nat->Bool) (i j:Nat) (b:Bool):updM M i j b i j=b:=by unfold updM;rw [YaA ⟨rfl,rfl⟩]
structure War (E:Nat->Nat->Prop) (n k i j:Nat) (M:Nat->Nat->Bool):Prop where
 sound:∀ a b,a<n->b<n->M a b=true->Plus E a b
 old:∀ a b,a<n->b<n->Thru E k a b->M a b=true
 rows:∀ a b,a<i->a<n->b<n->Thru E (k+1) a b->M a b=true
 cells:∀ b,b<j->b<n->Thru E (k+1) i b->M i b=true
theorem War.step {E:Nat->Nat->Prop} {n k i j:Nat} {M:Nat->Nat->Bool} (h:War E n k i j M) (hi:i<n) (hk:k<n) (hj:j<n):War E n k i (j+1) (updM M i j (M i j || (M i k && M k j))):=by
 have hup:∀ a b,M a b=true->updM M i j (M i j || (M i k && M k j)) a b=true:=by
  intro a b hab;unfold updM;split
  ·rename_i e;obtain ⟨rfl,rfl⟩:=e;rw [hab];rfl
  ·exact hab
 refine ⟨fun a b ha hb hab=>?_,fun a b ha hb ht=>hup a b (h.old a b ha hb ht),fun a b hai ha hb ht=>hup a b (h.rows a b hai ha hb ht),fun b hbj hb ht=>?_⟩
 ·unfold updM at hab;split at hab
  ·rename_i e
   obtain ⟨rfl,rfl⟩:=e;rw [YaS,Yat] at hab;rcases hab with h1|⟨h1,h2⟩
   ·exact h.sound _ _ ha hb h1
   ·exact .comp (h.sound _ _ ha hk h1) (h.sound _ _ hk hb h2)
  ·exact h.sound a b ha hb hab
 ·rcases YaE b j with h1|h1
  ·exact hup i b (h.cells b h1 hb ht)
  ·have:b=j:=by omega
   subst this;rw [Zon,YaS,Yat];rcases ht.split with h2|⟨h2,h3⟩
   ·exact .inl (h.old i b hi hb h2)
   ·exact .inr ⟨h.old i k hi hk h2,h.old k b hk hb h3⟩
theorem War.row {E:Nat->Nat->Prop} {n k i:Nat} {M:Nat->Nat->Bool} (h:War E n k i n M):War E n k (i+1) 0 M:=
 ⟨h.sound,h.old,fun a b hai ha hb ht=>by
  rcases YaE a i with h1|h1
  ·exact h.rows a b h1 ha hb ht
  ·have:a=i:=by omega
   subst this;exact h.cells b hb hb ht,fun b hb=>by omega⟩
theorem War.layer {E:Nat->Nat->Prop} {n k:Nat} {M:Nat->Nat->Bool} (h:War E n k n 0 M):War E n (k+1) 0 0 M:=
 ⟨h.sound,fun a b ha hb ht=>h.rows a b ha ha hb ht,fun a b h0=>by omega,fun b hb=>by omega⟩
theorem War.start {E:Nat->Nat->Prop} {n:Nat} {M:Nat->Nat->Bool} (h:∀ a b,a<n->b<n->(M a b=true↔E a b)):War E n 0 0 0 M:=
 ⟨fun a b ha hb hab=>.base ((h a b ha hb).1 hab),fun a b ha hb ht=>(h a b ha hb).2 ht.zero,fun a b h0=>by omega,fun b hb=>by omega⟩
theorem War.done {E:Nat->Nat->Prop} {n:Nat} {M:Nat->Nat->Bool} (h:War E n n 0 0 M) (hE:∀ i j,E i j->j<n) (a b:Nat) (ha:a<n) (hb:b<n):M a b=true↔Plus E a b:=
 ⟨h.sound a b ha hb,fun hp=>h.old a b ha hb (hp.thru hE).1⟩
def Zbc (L:List Cls) (n:List UInt8):Option Nat:=L.findIdx? (fun c=>c.name == n)
def StepR (L:List Cls) (i j:Nat):Prop:=∃ c,L[i]? = some c/\∃ n ∈ c.sup :: c.like,Zbc L n=some j
theorem StepR.lt {L:List Cls} {i j:Nat} (h:StepR L i j):j<L.length:=by
 obtain ⟨c,_,n,_,h⟩:=h;unfold Zbc at h;exact (YaX.1 h).1
section
variable {es es':List Ent} {π:Nat->Nat}
end
theorem Lined.uniq0 {cs:List Cls} (h:Lined cs):Uniq (Zav cs):=by
 rw [←Zc5];exact ZcA h.names _ (Yac _)
theorem ZdX (es:List Ent) (n:List UInt8):Zac es n=Zbc (es.map Ent.cls) n:=by
 unfold Zac Zbc;rw [List.findIdx?_map];rfl
def allR (cs:List Cls):List Cls:=givenL++cs
theorem Zgx:startL.map Ent.cls=givenL:=by
 unfold startL givenL;rw [YbH,YbH,Yb4];rfl
theorem ZcV (cs:List Cls):(newT cs).map Ent.cls=allR cs:=by
 unfold newT allR;rw [Ybb,Zgx,Yb4]
 congr 1
 conv=>rhs;rw [←List.map_id cs]
 rfl
theorem Lined.step {cs:List Cls} (h:Lined cs) (i j:Nat):StepR (allR cs) i j↔j ∈ parE (newT cs) i:=by
 have hf:∀ n,Zbc (allR cs) n=Zac (Zav cs) n:=fun n=>by rw [←ZcV,←ZdX,Zbx (Zcp cs)]
 unfold StepR;have hat:(allR cs)[i]? = ((newT cs)[i]?).map Ent.cls:=by rw [←ZcV,Yaw]
 rw [hat];cases he:(newT cs)[i]? with
 | none=>
  constructor
  ·rintro ⟨c,hc,_⟩;cases hc
  ·intro hd;unfold parE at hd;rw [he] at hd;cases hd
 | some e=>
  rw [ZcY he];simp only [YbW,Ybf];rcases Zbm he with ⟨h1,h2⟩|⟨h1,c,h2,rfl⟩
  ·have h3:∀ i,i<8->∀ e,startL[i]? = some e->(e.cls.like=[]/\e.lk=[])/\(e.up=none/\e.cls.sup=[]\/e.up=some 0/\e.cls.sup=objL\/e.up=some 1/\e.cls.sup=Zb3):=by
    intro i hi e he
    match i,hi,he with
    | 0,_,he=>obtain rfl:=Yae he;exact ⟨⟨rfl,rfl⟩,.inl ⟨rfl,rfl⟩⟩
    | 1,_,he=>obtain rfl:=Yae he;exact ⟨⟨rfl,rfl⟩,.inr (.inl ⟨rfl,rfl⟩)⟩
    | 2,_,he=>obtain rfl:=Yae he;exact ⟨⟨rfl,rfl⟩,.inr (.inr ⟨rfl,rfl⟩)⟩
    | 3,_,he=>obtain rfl:=Yae he;exact ⟨⟨rfl,rfl⟩,.inr (.inr ⟨rfl,rfl⟩)⟩
    | 4,_,he=>obtain rfl:=Yae he;exact ⟨⟨rfl,rfl⟩,.inr (.inr ⟨rfl,rfl⟩)⟩
    | 5,_,he=>obtain rfl:=Yae he;exact ⟨⟨rfl,rfl⟩,.inr (.inr ⟨rfl,rfl⟩)⟩
    | 6,_,he=>obtain rfl:=Yae he;exact ⟨⟨rfl,rfl⟩,.inr (.inr ⟨rfl,rfl⟩)⟩
    | 7,_,he=>obtain rfl:=Yae he;exact ⟨⟨rfl,rfl⟩,.inr (.inr ⟨rfl,rfl⟩)⟩
    | k+8,hk,_=>omega
   obtain ⟨⟨g1,g2⟩,g3⟩:=h3 i h1 e h2;have hu:=h.uniq0;have p0:Zbc (allR cs) objL=some 0:=by rw [hf];exact hu 0 _ (by rw [Zdw (by omega)];rfl)
   have p1:Zbc (allR cs) Zb3=some 1:=by rw [hf];exact hu 1 _ (by rw [Zdw (by omega)];rfl)
   have pn:Zbc (allR cs) []=none:=by
    rw [hf];cases hp:Zac (Zav cs) [] with
    | none=>rfl
    | some k=>
     exfalso
     rw [←Zbx (Zcp cs)] at hp;obtain ⟨e2,q1,q2⟩:=ZdE hp;have hc:Zak e2.cls.name=true:=by
      rcases Zbm q1 with ⟨h1,h2⟩|⟨h1,c,h2,rfl⟩
      ·exact (Za4 k h1 e2 h2).1
      ·exact (h.good c (Yad h2)).name
     rw [q2] at hc;exact absurd hc (by decide)
   unfold Ent.par;rw [g2,Ya3];rcases g3 with ⟨g3,g4⟩|⟨g3,g4⟩|⟨g3,g4⟩
   ·constructor
    ·rintro ⟨c,rfl,n,hn,hq⟩;rw [g1,g4] at hn;rw [Yav.1 hn,pn] at hq;cases hq
    ·intro hd;rw [g3] at hd;cases hd
   ·constructor
    ·rintro ⟨c,rfl,n,hn,hq⟩;rw [g1,g4] at hn;rw [Yav.1 hn,p0] at hq;rw [g3,←Yae hq];simp
    ·intro hd;rw [g3] at hd;refine ⟨_,rfl,objL,by rw [g4];exact Yak,?_⟩;rw [p0,show j=0 by simpa using hd]
   ·constructor
    ·rintro ⟨c,rfl,n,hn,hq⟩;rw [g1,g4] at hn;rw [Yav.1 hn,p1] at hq;rw [g3,←Yae hq];simp
    ·intro hd;rw [g3] at hd;refine ⟨_,rfl,Zb3,by rw [g4];exact Yak,?_⟩;rw [p1,show j=1 by simpa using hd]
  ·have hm:=Yad h2;have hups:=h.ups c hm;have hlk:=h.likes c hm;obtain ⟨u,hu⟩:=YaL.1 hups;have hup:=(Ziw hu).1;show _↔j ∈ Ent.par ⟨c,upE (Zav cs) c.sup,ZbF (Zav cs) c.like⟩
   unfold Ent.par;rw [Yap];show (∃ c',c=c'/\∃ n ∈ c'.sup :: c'.like,Zbc (allR cs) n=some j)↔j ∈ (upE (Zav cs) c.sup).toList\/j ∈ ZbF (Zav cs) c.like
   rw [hu];constructor
   ·rintro ⟨c',rfl,n,hn,hq⟩;rw [hf] at hq;rcases Yau.1 hn with e|hn
    ·rw [e,hup] at hq;rw [Yae hq];simp
    ·refine .inr (Ybc.2 ⟨n,hn,?_⟩);obtain ⟨k,hk⟩:=YaL.1 (YaH.1 hlk n hn);rw [hk];have:=(ZcT hk).1;rw [hq] at this;exact (Yae this).symm
   ·rintro (hd|hd)
    ·refine ⟨c,rfl,c.sup,Yak,?_⟩;rw [hf,hup,show j=u by simpa using hd]
    ·obtain ⟨n,hn,hq⟩:=Ybc.1 (show j ∈ c.like.map fun n=>(Zcs (Zav cs) n).getD 0 from hd);refine ⟨c,rfl,n,Yas _ hn,?_⟩;obtain ⟨k,hk⟩:=YaL.1 (YaH.1 hlk n hn);rw [hk] at hq;have hq:k=j:=hq;rw [hf,(ZcT hk).1,hq]
theorem ZfT {es:List Ent} {E:Nat->Nat->Prop} (hE:∀ i j,E i j↔j ∈ parE es i) {i j:Nat}:Plus E i j↔Over es i j:=by
 constructor
 ·intro h;induction h with
  | base h=>exact .one ((hE _ _).1 h)
  | comp _ _ ih1 ih2=>exact ih1.then ih2.up
 ·rintro ⟨d,hd,hu⟩;have key:∀ {x y:Nat},Up es x y->∀ i,x ∈ parE es i->Plus E i y:=by
   intro x y h;induction h with
   | refl x=>intro i hi;exact .base ((hE _ _).2 hi)
   | step h1 _ ih=>intro i hi;exact .comp (.base ((hE _ _).2 hi)) (ih _ h1)
  exact key hu i hd
theorem Zgs {l:List UInt8} (h:ZbN l=true) (hb:Zkh l=true):Zaj l=true:=by
 have hd:=ZdL h;unfold Zaj Zbo;rw [hd,Nat.mul_zero,Nat.sub_zero,YaF,hb];rfl
theorem Wise.kindR {es:List Ent} (W:Wise es) (l:List UInt8):ZaK es l=(l == Za1 || (Zaj l && (Zas (Zbo l) || (Zac es (Zbo l)).isSome))):=by
 unfold ZaK Zbs topL;cases hr:Zaj l with
 | true=>simp
 | false=>
  have hp:Zas l=false:=by
   cases hp:Zas l with
   | false=>rfl
   | true=>
    have:=Zgs (ZdF hp) (by unfold Zkh;rw [hp];rfl);rw [hr] at this;cases this
  have hc:Zac es l=none:=by
   cases hq:Zac es l with
   | none=>rfl
   | some i=>
    obtain ⟨_,_,_,_,hc,_⟩:=W.place hq;have:=Zgs (Zbf hc) (by unfold Zkh;rw [hc];simp);rw [hr] at this;cases this
  simp [hp,hc]
theorem Za8 {b:Bool} (h:b=true->False):b=false:=by cases b with|false=>rfl|true=>exact (h rfl).elim
