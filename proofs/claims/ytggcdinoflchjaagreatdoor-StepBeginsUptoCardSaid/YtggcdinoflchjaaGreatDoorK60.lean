/- laws -/
import Derived.Test.YtggcdinoflchjaaGreatDoorK39
set_option maxRecDepth 100000
set_option maxHeartbeats 16000000
namespace Go.Proofs.YtggcdinoflchjaaGreatDoor
open Go.RowKit
section
variable {β:Type}
def ZbP (es:List Ent) (g:Nat->Option β):Nat->List Nat->Option β
 | 0,_=>none
 | f+1,l=>l.findSome? (fun d=>(g d).or (ZbP es g f (lkOf es d)))
def ZgU (es:List Ent) (g:Nat->Option β) (d:Nat):Prop:=∀ x,Lup es d x->g x=none
theorem Zip {es:List Ent} {f d:Nat} {l:List Nat} (h:Deep es (f+1) l) (hd:d ∈ l):Deep es f (lkOf es d):=by
 obtain ⟨e,he,hk⟩:=h d hd;rw [Zba he];exact hk
theorem Zc9 {es:List Ent} (g:Nat->Option β):∀ (f:Nat) (l:List Nat),Deep es f l->(ZbP es g f l=none↔∀ k ∈ l,ZgU es g k)
 | 0,l,hd=>by
  have:l=[]:=hd;subst this;exact ⟨fun _ k hk=>(by cases hk),fun _=>rfl⟩
 | f+1,l,hd=>by
  unfold ZbP;rw [List.findSome?_eq_none_iff];constructor
  ·intro h k hk x hx;have h1:=h k hk;rw [Ycb] at h1;cases hx with
   | refl=>exact h1.1
   | step h2 h3=>exact (Zc9 g f _ (Zip hd hk)).1 h1.2 _ h2 x h3
  ·intro h k hk;rw [Ycb];exact ⟨h k hk k (.refl _),(Zc9 g f _ (Zip hd hk)).2 (fun d h2 x h3=>h k hk x (.step h2 h3))⟩
theorem ZdB {g:Nat->Option β} {a b:List Nat} {r:β} (h:a <+: b) (hr:a.findSome? g=some r):b.findSome? g=some r:=by
 obtain ⟨c,rfl⟩:=h;rw [Ybb,hr];rfl
theorem Zh5 {es:List Ent} (ha:Acyc es) (g:Nat->Option β):∀ (f:Nat) (M l:List Nat),Deep es f l->(∀ d ∈ M,ZgU es g d\/∀ k ∈ l,¬ Lup es k d)->(vis es f M l).findSome? g=ZbP es g f l
 | 0,M,l,_,_=>rfl
 | f+1,M,l,hd,hM=>by
  rw [Zh7];have key:∀ (l acc:List Nat),Deep es (f+1) l->(∀ d ∈ M,ZgU es g d\/∀ k ∈ l,¬ Lup es k d)->acc.findSome? g=none->(∀ d ∈ acc,ZgU es g d)->
    (l.foldl (Zbq es f M) acc).findSome? g=l.findSome? (fun d=>(g d).or (ZbP es g f (lkOf es d))):=by
   intro l;induction l with
   | nil=>intro acc _ _ h _;exact h
   | cons d l ih=>
    intro acc hd hM hacc hcl;have hdl:Deep es (f+1) l:=fun x hx=>hd x (Yap _ hx)
    have hMl:∀ x ∈ M,ZgU es g x\/∀ k ∈ l,¬ Lup es k x:=fun x hx=>(hM x hx).imp id (fun h k hk=>h k (Yap _ hk))
    have hdd:=Zip hd (Yal (a:=d) (l:=l));rw [YaK,YbE];have hclean:ZgU es g d->(g d).or (ZbP es g f (lkOf es d))=none:=fun h=>by
     rw [Ycb];exact ⟨h d (.refl _),(Zc9 g f _ hdd).2 (fun k h2 x h3=>h x (.step h2 h3))⟩
    by_cases hc:(M++acc).contains d=true
    ·have hs:Zbq es f M acc d=acc:=by unfold Zbq;rw [YaC hc]
     have hcd:ZgU es g d:=by
      rw [YbQ,Yao] at hc;rcases hc with h|h
      ·rcases hM d h with h1|h1
       ·exact h1
       ·exact absurd (.refl _) (h1 d Yal)
      ·exact hcl d h
     rw [hs,hclean hcd];exact ih acc hdl hMl hacc hcl
    ·have hs:Zbq es f M acc d=acc++d :: vis es f (M++acc++[d]) (lkOf es d):=by unfold Zbq;rw [Yas hc]
     have hv:(vis es f (M++acc++[d]) (lkOf es d)).findSome? g=ZbP es g f (lkOf es d):=by
      refine Zh5 ha g f _ _ hdd (fun x hx=>?_);rw [Yao,Yao] at hx;rcases hx with (hx|hx)|hx
      ·exact (hM x hx).imp id (fun h k hk hl=>h d Yal (.step hk hl))
      ·exact .inl (hcl x hx)
      ·rw [YaA.1 hx];refine .inr (fun k hk hl=>ha d ⟨k,?_,Zpp hl⟩);unfold lkOf at hk;split at hk
       ·rename_i e he;exact Zcs he hk
       ·cases hk
     have hnew:(acc++d :: vis es f (M++acc++[d]) (lkOf es d)).findSome? g=(g d).or (ZbP es g f (lkOf es d)):=by
      rw [Ybb,hacc,Ybx,YbE,hv];cases g d <;> rfl
     rw [hs];cases hr:(g d).or (ZbP es g f (lkOf es d)) with
     | some r=>
      rw [hr] at hnew;exact ZdB (Zd8 es f M l _) hnew
     | none=>
      rw [hr] at hnew;refine ih _ hdl hMl hnew (fun x hx=>?_);rw [Ycb] at hr;have hsub:=(Zc9 g f _ hdd).1 hr.2;rcases Yao.1 hx with h|h
      ·exact hcl x h
      ·rcases Yav.1 h with h|h
       ·rw [h];intro y hy;cases hy with
        | refl=>exact hr.1
        | step h2 h3=>exact hsub _ h2 y h3
       ·obtain ⟨k,hk,hl⟩:=ZdK es f _ _ x h;exact fun y hy=>hsub k hk y (hl.trans hy)
  exact key l [] hd hM rfl (fun d h=>(by cases h))
theorem Zhq {es:List Ent} (ha:Acyc es) (g:Nat->Option β) (f:Nat):∀ (L acc:List Nat),(∀ d ∈ L,Deep es f (lkOf es d))->acc.findSome? g=none->(∀ d ∈ acc,ZgU es g d)->
  (L.foldl (fun acc d=>acc++vis es f acc (lkOf es d)) acc).findSome? g=L.findSome? (fun d=>ZbP es g f (lkOf es d))
 | [],acc,_,h,_=>h
 | d :: L,acc,hL,h,hc=>by
  have hd:=hL d Yal;have hv:=Zh5 ha g f acc (lkOf es d) hd (fun x hx=>.inl (hc x hx));rw [YaK,YbE];have hnew:(acc++vis es f acc (lkOf es d)).findSome? g=ZbP es g f (lkOf es d):=by rw [Ybb,h,Ybx,hv]
  cases hr:ZbP es g f (lkOf es d) with
  | some r=>
   rw [hr] at hnew;exact ZdB (ZdD es f L _) hnew
  | none=>
   rw [hr] at hnew;refine Zhq ha g f L _ (fun x hx=>hL x (Yap _ hx)) hnew (fun x hx=>?_);rcases Yao.1 hx with h1|h1
   ·exact hc x h1
   ·obtain ⟨k,hk,hl⟩:=ZdK es f _ _ x h1;exact fun y hy=>(Zc9 g f _ hd).1 hr k hk y (hl.trans hy)
end
def ownG (es:List Ent) (n:List UInt8) (x:Nat):Option (Nat × Mth):=(ownM es x n).map (fun m=>(x,m))
theorem Wise.methR {es:List Ent} (W:Wise es) (o:Option Nat) (ho:∀ i,o=some i->i<es.length) (n:List UInt8) :
  ZbI es o n=((Zap es o).findSome? (ownG es n)).or ((Zap es o).findSome? (fun d=>ZbP es (ownG es n) es.length (lkOf es d))):=by
 unfold ZbI ZaE ZcO;rw [Ybb];have h:=Zhq W.ac (ownG es n) es.length (Zap es o) [] (fun d hd=>by
  obtain ⟨e,he⟩:=Zbt (W.sh.line o ho) d hd;rw [Zba he];exact W.sh.deep d e he) rfl (fun d h=>(by cases h))
 unfold ifsL;rw [←h];rfl
def putE (es:List Ent):Nat->List Nat->Nat->List Nat
 | 0,out,_=>out
 | f+1,out,i=>if i<8\/i ∈ out then out else (parE es i).foldl (putE es f) out++[i]
def Zcj (es:List Ent):List Nat:=((List.range (es.length - 8)).map (8 + ·)).foldl (putE es es.length) []
def Zga (es:List Ent):Nat->Nat->Prop
 | 0,_=>False
 | f+1,i=>∀ d ∈ parE es i,Zga es f d
theorem ZfL {es:List Ent} (ha:Acyc es) (hp:Zc3 es):∀ (f:Nat) (V:List Nat) (i:Nat),(∀ v ∈ V,Over es v i)->V.Nodup->(∀ v ∈ V,v<es.length)->es.length<=V.length+f->i<es.length->Zga es f i
 | 0,V,i,hv,hn,hb,hl,hi=>by
  have:=Zgo hn hb (by omega) hi;exact absurd (hv i this) (ha i)
 | f+1,V,i,hv,hn,hb,hl,hi=>fun d hd=>by
  have hnd:i ∉ V:=fun h=>ha i (hv i h)
  refine ZfL ha hp f (i :: V) d (fun v h=>?_) (Ycs.2 ⟨hnd,hn⟩) (fun v h=>?_) (by rw [YaI];omega) (hp i d hd)
  ·rcases Yav.1 h with e|h
   ·rw [e];exact .one hd
   ·exact (hv v h).snoc hd
  ·rcases Yav.1 h with e|h
   ·rw [e];exact hi
   ·exact hb v h
theorem Wise.deepU {es:List Ent} (W:Wise es) {i:Nat} (hi:i<es.length):Zga es es.length i:=
 ZfL W.ac W.par es.length [] i (fun v h=>(by cases h)) Yb7 (fun v h=>(by cases h)) (by simp) hi
structure Vp (n:Nat) (P out:List Nat) (s:List Bool × List Nat):Prop where
 len:s.1.length=n
 vis:∀ x,x<n->(s.1.getD x false=true↔x ∈ s.2\/x ∈ P)
 ord:s.2=List.range 8++out
 low:∀ x ∈ out,8<=x
theorem Zh9 {es:List Ent} (ha:Acyc es) (hp:Zc3 es):∀ (f:Nat) (P out:List Nat) (s:List Bool × List Nat) (c:Nat),c<es.length->(∀ p ∈ P,¬ Up es c p)->Vp es.length P out s->Vp es.length P (putE es f out c) (Zas es f s c)
 | 0,P,out,s,c,_,_,h=>h
 | f+1,P,out,s,c,hc,hP,h=>by
  have hcP:c ∉ P:=fun hm=>hP c hm (.refl _)
  have hiff:s.1.getD c false=true↔c<8\/c ∈ out:=by
   rw [h.vis c hc,h.ord,Yao,YbL];constructor
   ·rintro (h1|h1)
    ·exact h1
    ·exact absurd h1 hcP
   ·exact .inl
  unfold Zas putE;by_cases hv:s.1.getD c false=true
  ·rw [YaC hv,YaC (hiff.1 hv)];exact h
  ·rw [Yas hv,Yas (fun q=>hv (hiff.2 q))];have hc8:8<=c:=by
    rcases YaB c 8 with q|q
    ·exact absurd (hiff.2 (.inl q)) hv
    ·exact q
   have h0:Vp es.length (c :: P) out (s.1.set c true,s.2):=by
    refine ⟨by rw [Ycf];exact h.len,fun x hx=>?_,h.ord,h.low⟩;show (s.1.set c true).getD x false=true↔_
    by_cases e:x=c
    ·subst e;rw [Yam,Ybv (by rw [h.len];exact hx)];simp
    ·rw [Yam,Ybt (fun q=>e q.symm),←Yam,h.vis x hx,Yav];constructor
     ·rintro (q|q)
      ·exact .inl q
      ·exact .inr (.inr q)
     ·rintro (q|q|q)
      ·exact .inl q
      ·exact absurd q e
      ·exact .inr q
   have fold:∀ (l:List Nat) (out:List Nat) (s:List Bool × List Nat),(∀ d ∈ l,d ∈ parE es c)->Vp es.length (c :: P) out s->Vp es.length (c :: P) (l.foldl (putE es f) out) (l.foldl (Zas es f) s):=by
    intro l;induction l with
    | nil=>intro out s _ h;exact h
    | cons d l ih=>
     intro out s hl h;rw [YaK,YaK];have hd:=hl d Yal;refine ih _ _ (fun x hx=>hl x (Yap _ hx)) (Zh9 ha hp f (c :: P) out s d (hp c d hd) (fun p hpm hu=>?_) h);rcases Yav.1 hpm with e|hpm
     ·rw [e] at hu;exact ha c ⟨d,hd,hu⟩
     ·exact hP p hpm (.step hd hu)
   have h1:=fold (parE es c) out (s.1.set c true,s.2) (fun _ q=>q) h0;refine ⟨h1.len,fun x hx=>?_,by show ((parE es c).foldl (Zas es f) (s.1.set c true,s.2)).2++[c]=_;rw [h1.ord,YaW],fun x hx=>?_⟩
   ·show ((parE es c).foldl (Zas es f) (s.1.set c true,s.2)).1.getD x false=true↔x ∈ ((parE es c).foldl (Zas es f) (s.1.set c true,s.2)).2++[c]\/x ∈ P
    rw [h1.vis x hx,Yao,Yav,YaA];constructor
    ·rintro (q|q|q)
     ·exact .inl (.inl q)
     ·exact .inl (.inr q)
     ·exact .inr q
    ·rintro ((q|q)|q)
     ·exact .inl q
     ·exact .inr (.inl q)
     ·exact .inr (.inr q)
   ·rcases Yao.1 hx with q|q
    ·exact h1.low x q
    ·rw [YaA.1 q];exact hc8
theorem Zf9 {es:List Ent} (f:Nat) (s:List Bool × List Nat):∀ (l:List Nat),(∀ d ∈ l,s.1.getD d false=true)->l.foldl (Zas es f) s=s
 | [],_=>rfl
 | d :: l,h=>by
  rw [YaK];have:Zas es f s d=s:=by
   cases f with
   | zero=>rfl
   | succ f=>unfold Zas;rw [YaC (h d Yal)]
  rw [this];exact Zf9 f s l (fun x hx=>h x (Yap _ hx))
theorem Zjc {es:List Ent} (f:Nat) (hl:8<=es.length) (hlow:∀ i,i<8->∀ d ∈ parE es i,d<i):∀ k,k<=8->
  let s:=(List.range k).foldl (Zas es (f+1)) (List.replicate es.length false,[])
  s.1.length=es.length/\(∀ x,x<es.length->(s.1.getD x false=true↔x<k))/\s.2=List.range k:=by
 intro k;induction k with
 | zero=>
  intro _;refine ⟨by simp,fun x hx=>?_,rfl⟩;show (List.replicate es.length false).getD x false=true↔_
  rw [Yam,Ycn];split <;> simp
 | succ k ih=>
  intro hk;obtain ⟨h1,h2,h3⟩:=ih (by omega);simp only [YbR,Ya8,YaK,List.foldl_nil];generalize (List.range k).foldl (Zas es (f+1)) (List.replicate es.length false,[])=s at h1 h2 h3;have hk0:¬ s.1.getD k false=true:=by rw [h2 k (by omega)];omega
  have hstay:(parE es k).foldl (Zas es f) (s.1.set k true,s.2)=(s.1.set k true,s.2):=by
   refine Zf9 f _ _ (fun d hd=>?_);have hd2:=hlow k (by omega) d hd;show (s.1.set k true).getD d false=true
   rw [Yam,Ybt (by omega),←Yam];exact (h2 d (by omega)).2 hd2
  have hs:Zas es (f+1) s k=(s.1.set k true,s.2++[k]):=by
   unfold Zas;rw [Yas hk0,hstay]
  rw [hs];refine ⟨by show (s.1.set k true).length=_;rw [Ycf];exact h1,fun x hx=>?_,by show s.2++[k]=_;rw [h3]⟩;show (s.1.set k true).getD x false=true↔_
  by_cases e:x=k
  ·subst e;rw [Yam,Ybv (by rw [h1];exact hx)];simp
  ·rw [Yam,Ybt (fun q=>e q.symm),←Yam,h2 x hx];omega
theorem Znj {es:List Ent} (ha:Acyc es) (hp:Zc3 es) (hl:8<=es.length) (hlow:∀ i,i<8->∀ d ∈ parE es i,d<i):Zb1 es es.length=List.range 8++Zcj es:=by
 obtain ⟨f,hf⟩:∃ f,es.length=f+1:=⟨es.length - 1,by omega⟩
 have hr:List.range es.length=List.range 8++(List.range (es.length - 8)).map (8 + ·):=by
  conv=>lhs;rw [show es.length=8+(es.length - 8) by omega]
  exact List.range_add
 unfold Zb1 Zcj;rw [hr,Ya8];obtain ⟨h1,h2,h3⟩:=Zjc (es:=es) f hl hlow 8 (Yac _);rw [←hf] at h1 h2 h3;generalize (List.range 8).foldl (Zas es es.length) (List.replicate es.length false,[])=s at h1 h2 h3;have h0:Vp es.length [] [] s:=⟨h1,fun x hx=>by rw [h2 x hx,h3,YbL];simp,by rw [h3,Ya2],fun x hx=>(by cases hx)⟩;have fold:∀ (l:List Nat) (out:List Nat) (s:List Bool × List Nat),(∀ d ∈ l,d<es.length)->Vp es.length [] out s->Vp es.length [] (l.foldl (putE es es.length) out) (l.foldl (Zas es es.length) s):=by
  intro l;induction l with
  | nil=>intro out s _ h;exact h
  | cons d l ih=>
   intro out s hd h;rw [YaK,YaK];exact ih _ _ (fun x hx=>hd x (Yap _ hx)) (Zh9 ha hp es.length [] out s d (hd d Yal) (fun p h=>(by cases h)) h)
 refine (fold _ [] s (fun d hd=>?_) h0).ord;obtain ⟨k,hk,rfl⟩:=Ya6.1 hd;have:=YbL.1 hk;show 8+k<es.length
 omega
theorem Lined.order {cs:List Cls} (h:Lined cs) (ha:Acyc (newT cs)):Zb1 (newT cs) (newT cs).length=List.range 8++Zcj (newT cs):=
 Znj ha h.par (by rw [ZaR];omega) (fun i hi d hd=>by
  rw [Zcv hi] at hd;have:∀ i,i<8->∀ d ∈ parE startL i,d<i:=by decide
  exact this i hi d hd)
theorem Wise.added_in {es:List Ent} (W:Wise es) {i d y:Nat} (hi:i<es.length) (hd:d ∈ Zap es (some i)) (hy:y ∈ Zau es d):y ∈ ZaE es (some i):=
 Zcy W.sh (fun j hj=>by obtain rfl:=Yae hj;exact hi) hd hy
theorem Wise.above_up {es:List Ent} (W:Wise es) {i j x:Nat} (hi:i<es.length) (hj:upAt es i=some j) (hx:x ∈ ZaE es (some j)):x ∈ ZaE es (some i):=by
 have hjl:=W.upAt_lt hj;rw [W.above_iff hi];refine .step ?_ ((W.above_iff hjl x).1 hx);have he:=Yaa hi;rw [Zci he] at hj;exact ZbG he hj
def Zpf (es:List Ent) (i:Nat):Prop:=∃ y ∈ ZaE es (some i),∃ m ∈ Zar es y,∃ z ∈ ZaE es (some i),∃ k ∈ Zar es z,m.name=k.name/\ZaJ m ≠ ZaJ k
theorem Wise.differs_iff {es:List Ent} (W:Wise es) {i:Nat} (hi:i<es.length) (hanc:∀ d ∈ Zap es (upAt es i),ZaL es d=false):ZaL es i=true↔Zpf es i:=by
 constructor
 ·intro h;unfold ZaL at h;obtain ⟨m,hm,hc⟩:=YaQ.1 h;obtain ⟨y,hy,hmy⟩:=YbB.1 (show m ∈ (Zau es i).flatMap (Zar es) from hm);have hyi:∀ y ∈ Zau es i,y ∈ ZaE es (some i):=fun y hy=>W.added_in hi (by rw [W.lineUp hi];exact Yal) hy
  unfold clash knOf at hc;cases hf:(msE es (Zau es i)).find? (fun k=>k.name == m.name) with
  | none=>rw [hf] at hc;cases hc
  | some m0=>
   rw [hf] at hc;simp only [YbS,bne_iff_ne,ne_eq] at hc;have hn0:m0.name=m.name:=by simpa using Ycq hf
   obtain ⟨z,hz,hmz⟩:=YbB.1 (show m0 ∈ (Zau es i).flatMap (Zar es) from Ycm hf);unfold inhE at hc;cases hr:ZbI es (upAt es i) m0.name with
   | none=>
    rw [hr] at hc;exact ⟨y,hyi y hy,m,hmy,z,hyi z hz,m0,hmz,hn0.symm,hc⟩
   | some r=>
    rw [hr] at hc;cases hu:upAt es i with
    | none=>
     rw [hu] at hr;have:=(Zdb hr).1;unfold ZaE at this;rw [Za6] at this;cases this
    | some j=>
     rw [hu] at hr;have ho:=W.owner (x:=r.1) (m:=r.2) (W.upAt_lt hu) hr;exact ⟨y,hyi y hy,m,hmy,r.1,W.above_up hi hu (Zdb hr).1,r.2,ho.2.2.1,by rw [ho.2.2.2,hn0],hc⟩
 ·rintro ⟨y,hy,m,hm,z,hz,k,hk,hn,hs⟩;cases hd:ZaL es i with
  | true=>rfl
  | false=>
   exfalso
   obtain ⟨c,hc⟩:=W.signs i hi (fun d hd2=>by
    rw [W.lineUp hi] at hd2;rcases Yav.1 hd2 with e|h
    ·rw [e];exact hd
    ·exact hanc d h) m.name
   exact hs (by rw [hc y hy m hm rfl,hc z hz k hk hn.symm])
def Lack (es:List Ent) (i:Nat):Prop:=Zcl es i=false/\∃ y ∈ ZaE es (some i),∃ m ∈ Zar es y,absM es i m.name=true
theorem Wise.lacks_iff {es:List Ent} (W:Wise es) {i:Nat} (hi:i<es.length) (hanc:∀ d ∈ Zap es (upAt es i),Zb0 es d=false):Zb0 es i=true↔Lack es i:=by
 constructor
 ·intro h;unfold Zb0 at h;rw [Yar,YaX,Ybg] at h;refine ⟨h.1,?_⟩;have key:∀ d ∈ Zap es (some i),(Zau es d).any (ZbT es i)=true->∃ y ∈ ZaE es (some i),∃ m ∈ Zar es y,absM es i m.name=true:=by
   intro d hd ha;obtain ⟨y,hy,hl⟩:=YaQ.1 ha;unfold ZbT at hl;obtain ⟨m,hm,hb⟩:=YaQ.1 hl;exact ⟨y,W.added_in hi hd hy,m,hm,hb⟩
  rcases h.2 with h1|h1
  ·exact key i (by rw [W.lineUp hi];exact Yal) h1
  ·obtain ⟨d,hd,h2⟩:=YaQ.1 h1;refine key d ?_ h2;rw [W.lineUp hi];exact Yap _ ((List.takeWhile_sublist _).subset hd)
 ·rintro ⟨ha,y,hy,m,hm,hb⟩;cases hd:Zb0 es i with
  | true=>rfl
  | false=>
   exfalso
   have:=W.whole hi (fun d hd2=>by
    rw [W.lineUp hi] at hd2;rcases Yav.1 hd2 with e|h
    ·rw [e];exact hd
    ·exact hanc d h) ha y hy m hm
   rw [hb] at this;cases this
theorem Wise.decl_null {es:List Ent} (W:Wise es):ZbY es Zdq=false:=by
 have h0:Zaj Zdq=false:=by
  have hd:ZaO Zdq=0:=Zg2 (show ZbJ Zdq=true by decide);unfold Zaj Zbe;rw [hd];decide
 unfold ZbY topL;rw [h0];rw [Yas (by decide),W.not_class Zkw];decide
theorem Wise.there {es:List Ent} (W:Wise es) (s:List UInt8):ZbY es s=(decide (s ≠ Zdq) && ZeI es s):=by
 unfold ZeI;by_cases h:s=Zdq
 ·rw [h,W.decl_null];simp
 ·rw [show (s == Zdq)=false from Yah.2 h];simp [h]
theorem ZlJ (es:List Ent) (i:Nat):ZdR es i=(Zbh es i).any fun f=>(Zbl es (Zap es (upAt es i))).any fun g=>g.name == f.name:=by
 unfold ZdR hasF
 congr 1
 funext f
 rw [Ybk,YaQ,YaQ];constructor
 ·rintro ⟨x,hx,h⟩;obtain ⟨g,hg,he⟩:=YaQ.1 h;exact ⟨g,mem_fldsL.2 ⟨x,hx,hg⟩,he⟩
 ·rintro ⟨g,hg,he⟩;obtain ⟨x,hx,h⟩:=mem_fldsL.1 hg;exact ⟨x,hx,YaQ.2 ⟨g,h,he⟩⟩
theorem Ze3 (cs:List Cls) (n:List UInt8):Za2 (allR cs) n=Zad (newT cs) n:=by rw [←ZcH,←ZdH]
theorem Zcd (cs:List Cls) (n:List UInt8):Za2 (allR cs) n=Zad (Zat cs) n:=by rw [Ze3,Zbo (Zb8 cs)]
theorem Zdx (cs:List Cls) (i:Nat):(allR cs)[i]? = ((newT cs)[i]?).map Ent.cls:=by rw [←ZcH,Yau]
theorem ZcP (cs:List Cls):(allR cs).length=8+cs.length:=by rw [←ZcH,Yaz,ZaR]
theorem Lined.noname {cs:List Cls} (h:Lined cs):Zad (newT cs) []=none:=by
 cases hp:Zad (newT cs) [] with
 | none=>rfl
 | some k=>
  exfalso
  obtain ⟨e2,q1,q2⟩:=Zds hp;have hc:Zal e2.cls.name=true:=by
   rcases Zbb q1 with ⟨h1,h2⟩|⟨h1,c,h2,rfl⟩
   ·exact (ZaV k h1 e2 h2).1
   ·exact (h.good c (Yaf h2)).name
  rw [q2] at hc;exact absurd hc (by decide)
theorem Lined.sup {cs:List Cls} (h:Lined cs) {i:Nat} {e:Ent} (he:(newT cs)[i]? = some e):Zad (newT cs) e.cls.sup=e.up:=by
 rcases Zbb he with ⟨h1,h2⟩|⟨h1,c,h2,rfl⟩
 ·have h3:∀ i,i<8->∀ e,startL[i]? = some e->(e.up=none/\e.cls.sup=[]\/e.up=some 0/\e.cls.sup=objL\/e.up=some 1/\e.cls.sup=ZbQ):=by
   intro i hi e he
   match i,hi,he with
   | 0,_,he=>obtain rfl:=Yae he;exact .inl ⟨rfl,rfl⟩
   | 1,_,he=>obtain rfl:=Yae he;exact .inr (.inl ⟨rfl,rfl⟩)
   | 2,_,he=>obtain rfl:=Yae he;exact .inr (.inr ⟨rfl,rfl⟩)
   | 3,_,he=>obtain rfl:=Yae he;exact .inr (.inr ⟨rfl,rfl⟩)
   | 4,_,he=>obtain rfl:=Yae he;exact .inr (.inr ⟨rfl,rfl⟩)
   | 5,_,he=>obtain rfl:=Yae he;exact .inr (.inr ⟨rfl,rfl⟩)
   | 6,_,he=>obtain rfl:=Yae he;exact .inr (.inr ⟨rfl,rfl⟩)
   | 7,_,he=>obtain rfl:=Yae he;exact .inr (.inr ⟨rfl,rfl⟩)
   | k+8,hk,_=>omega
  rcases h3 i h1 e h2 with ⟨a,b⟩|⟨a,b⟩|⟨a,b⟩
  ·rw [a,b];exact h.noname
  ·rw [a,b];exact h.uniq 0 _ (by rw [Zbn (by omega)];rfl)
  ·rw [a,b];exact h.uniq 1 _ (by rw [Zbn (by omega)];rfl)
 ·obtain ⟨u,hu⟩:=YaM.1 (h.ups c (Yaf h2));show Zad (newT cs) c.sup=upE (Zat cs) c.sup
  rw [Zbo (Zb8 cs),(Zh3 hu).1,hu]
theorem Lined.like {cs:List Cls} (h:Lined cs) {i:Nat} {e:Ent} (he:(newT cs)[i]? = some e):e.cls.like.map (Zad (newT cs))=e.lk.map some:=by
 rcases Zbb he with ⟨h1,h2⟩|⟨h1,c,h2,rfl⟩
 ·have h3:∀ i,i<8->∀ e,startL[i]? = some e->e.cls.like=[]:=by
   intro i hi e he
   match i,hi,he with
   | 0,_,he=>obtain rfl:=Yae he;rfl
   | 1,_,he=>obtain rfl:=Yae he;rfl
   | 2,_,he=>obtain rfl:=Yae he;rfl
   | 3,_,he=>obtain rfl:=Yae he;rfl
   | 4,_,he=>obtain rfl:=Yae he;rfl
   | 5,_,he=>obtain rfl:=Yae he;rfl
   | 6,_,he=>obtain rfl:=Yae he;rfl
   | 7,_,he=>obtain rfl:=Yae he;rfl
   | k+8,hk,_=>omega
  rw [h3 i h1 e h2,(ZaV i h1 e h2).2.2.1];rfl
 ·show c.like.map (Zad (newT cs))=(c.like.map fun n=>(Zce (Zat cs) n).getD 0).map some
  rw [YbX];refine Ycg (fun n hn=>?_);obtain ⟨k,hk⟩:=YaM.1 (YaE.1 (h.likes c (Yaf h2)) n hn);show Zad (newT cs) n=some ((Zce (Zat cs) n).getD 0)
  rw [hk,Zbo (Zb8 cs)];exact (ZcG hk).1
theorem Lined.like_at {cs:List Cls} (h:Lined cs) {i:Nat} {e:Ent} (he:(newT cs)[i]? = some e) (k:Nat):(e.cls.like[k]?).map (Zad (newT cs))=(e.lk[k]?).map some:=by
 have q:=Ya5 (fun l=>l[k]?) (h.like he)
 simpa using q
theorem ZeU {cs:List Cls} (W:Wise (newT cs)) {i:Nat} (hi:i<8):chkT (newT cs) i=0:=by
 have hm:∀ y,y<8->Zar (newT cs) y=[]:=fun y hy=>by
  unfold Zar;rw [Zbn hy];cases he:startL[y]? with
  | none=>rfl
  | some e=>exact (ZaV y hy e he).2.2.2.2.2.1
 obtain ⟨e,he⟩:∃ e,startL[i]? = some e:=⟨_,Yaa (by rw [ZaG];exact hi)⟩
 have het:(newT cs)[i]? = some e:=by rw [Zbn hi];exact he
 have hs:=ZaV i hi e he;have hadd:Zau (newT cs) i=[i]:=by
  unfold Zau;rw [Zba het,hs.2.2.1];obtain ⟨f,hf⟩:∃ f,(newT cs).length=f+1:=⟨7+cs.length,by rw [ZaR];omega⟩
  rw [hf];rfl
 have hl0:Zap (newT cs) (some 0)=[0]:=by
  rw [W.line W.obj];show 0 :: Zap (newT cs) none=_
  rw [Za6]
 have hl1:Zap (newT cs) (some 1)=[1,0]:=by
  rw [W.line W.flt];show 1 :: Zap (newT cs) (some 0)=_
  rw [hl0]
 have hup:∀ d ∈ Zap (newT cs) (upAt (newT cs) i),d<8:=by
  rw [Zci het];cases hu:e.up with
  | none=>rw [Za6];intro d hd;cases hd
  | some j=>
   have:=hs.2.2.2.2.1 j hu;rcases (show j=0\/j=1 by omega) with rfl|rfl
   ·rw [hl0];intro d hd;simp at hd;omega
   ·rw [hl1];intro d hd;simp at hd;omega
 have h1:ZdR (newT cs) i=false:=by
  unfold ZdR Zbh;rw [het];show e.cls.flds.any _=false
  by_cases h:i=1
  ·subst h;obtain rfl:(⟨ZbZ,some 0,[]⟩:Ent)=e:=Yae (show some _=some e from he);rw [Zci het];unfold hasF;rw [hl0];show [(⟨Zia,Zh2,false⟩:Fld)].any (fun f=>[0].any fun x=>(Zbh (newT cs) x).any fun g=>g.name == f.name)=false
   have h0:Zbh (newT cs) 0=[]:=by unfold Zbh;rw [Zbn (by omega)];rfl
   simp [h0]
  ·have hf:∀ i,i<8->i ≠ 1->(startL[i]?).map (fun e=>e.cls.flds.length)=some 0:=by decide
   have:=hf i hi h;rw [he] at this;have h3:e.cls.flds=[]:=YaY.1 (Yae this);rw [h3];rfl
 have h2:ZcB (newT cs) (ZeV (newT cs) i)=true:=by
  rw [Zgh het];unfold ZcB;rw [hs.2.2.2.2.2.1];have hk:∀ f ∈ e.cls.flds,ZbY (newT cs) f.kind=true:=by
   have hq:startL.all (fun e=>e.cls.flds.all fun f=>ZaB (topL f.kind))=true:=by decide +kernel
   intro f hf;have:=YaE.1 (YaE.1 hq e (Yaf he)) f hf;unfold ZbY;rw [this];rfl
  have:(e.cls.flds.any fun f=>!ZbY (newT cs) f.kind)=false:=by
   rw [YaT];intro f hf;rw [hk f hf];decide
  rw [this];rfl
 have h3:ZaL (newT cs) i=false:=by
  unfold ZaL msE;rw [hadd];simp [hm i hi]
 have h4:Zb0 (newT cs) i=false:=by
  unfold Zb0 ZbT;rw [hadd];have:((Zap (newT cs) (upAt (newT cs) i)).takeWhile (Zcl (newT cs)))=[]:=by
   cases hq:Zap (newT cs) (upAt (newT cs) i) with
   | nil=>rfl
   | cons d l=>
    have hd:=hup d (by rw [hq];exact Yal);have ha:Zcl (newT cs) d=false:=by
     unfold Zcl;rw [Zbn hd];have:∀ d,d<8->(match startL[d]? with|some e=>e.cls.abs|none=>false)=false:=by decide
     exact this d hd
    rw [List.takeWhile_cons,ha];rfl
  rw [this];simp [hm i hi]
 unfold chkT;rw [h1,h2,h3,h4];rfl
def Clo (es:List Ent) (out:List Nat):Prop:=∀ k x,out[k]? = some x->∀ d ∈ parE es x,8<=d->d ∈ out.take k
theorem Znr {es:List Ent}:∀ (f:Nat) (out:List Nat) (i:Nat),Zga es f i->Clo es out->Clo es (putE es f out i)/\out <+: putE es f out i/\(8<=i->i ∈ putE es f out i)
 | 0,_,_,h,_=>h.elim
 | f+1,out,i,h,hc=>by
  have fold:∀ (l out:List Nat),(∀ d ∈ l,Zga es f d)->Clo es out->Clo es (l.foldl (putE es f) out)/\out <+: l.foldl (putE es f) out/\∀ d ∈ l,8<=d->d ∈ l.foldl (putE es f) out:=by
   intro l;induction l with
   | nil=>intro out _ hc;exact ⟨hc,List.prefix_refl _,fun d hd=>(by cases hd)⟩
   | cons d l ih=>
    intro out hd hc;obtain ⟨h1,h2,h3⟩:=Znr f out d (hd d Yal) hc;obtain ⟨q1,q2,q3⟩:=ih (putE es f out d) (fun y hy=>hd y (Yap _ hy)) h1;rw [YaK];refine ⟨q1,h2.trans q2,fun y hy h8=>?_⟩;rcases Yav.1 hy with e|hy
    ·rw [e];exact q2.subset (h3 (e ▸ h8))
    ·exact q3 y hy h8
  unfold putE;split
  ·rename_i hs
   exact ⟨hc,List.prefix_refl _,fun h8=>hs.resolve_left (by omega)⟩
  ·obtain ⟨q1,q2,q3⟩:=fold (parE es i) out (fun d hd=>h d hd) hc;refine ⟨fun k x hx d hd h8=>?_,q2.trans (List.prefix_append _ _),fun _=>YaZ _ (YaA.2 rfl)⟩;rcases YaB k ((parE es i).foldl (putE es f) out).length with hk|hk
   ·rw [YaP hk] at hx;rw [YbC (by omega)];exact q1 k x hx d hd h8
   ·rw [YaH hk] at hx;have h0:k - ((parE es i).foldl (putE es f) out).length=0:=by
     rcases YbP (k - ((parE es i).foldl (putE es f) out).length) with h0|h0
     ·exact h0
     ·rw [YaN (by simp;omega)] at hx;cases hx
    rw [h0] at hx;obtain rfl:=Yae (show some i=some x from hx);have hkl:k=((parE es i).foldl (putE es f) out).length:=by omega
    rw [hkl,YbC (Yac _),YaJ];exact q3 d hd h8
theorem Zk7 {es:List Ent} (W:Wise es) (k:Nat) (hk:k<=es.length - 8):Clo es (((List.range k).map (8 + ·)).foldl (putE es es.length) []):=by
 induction k with
 | zero=>intro k x hx;simp at hx
 | succ k ih=>
  rw [YbR,Ya4,Ya8];exact (Znr es.length _ (8+k) (W.deepU (by omega)) (ih (by omega))).1
theorem Zoc {cs:List Cls} {out:List Nat} (hc:Clo (newT cs) out):∀ (k x:Nat),out[k]? = some x->∀ d,Over (newT cs) x d->d<8\/d ∈ out.take k:=by
 have low:∀ {x y:Nat},Up (newT cs) x y->x<8->y<8:=by
  intro x y h;induction h with
  | refl=>exact id
  | step h1 _ ih=>
   intro hx;rw [Zcv hx] at h1;have:∀ i,i<8->∀ d ∈ parE startL i,d<i:=by decide
   exact ih (Nat.lt_trans (this _ hx _ h1) hx)
 intro k;induction k using Nat.strongRecOn with
 | ind k ih=>
  rintro x hx d ⟨p,hp,hu⟩;rcases YaB p 8 with h8|h8
  ·exact .inl (low hu h8)
  ·have hm:=hc k x hx p hp h8;rcases hu.over with e|ho
   ·exact .inr (e ▸ hm)
   ·obtain ⟨j,hj⟩:=Ya0.1 hm;rw [YbI] at hj;split at hj
    ·rename_i hjk
     rcases ih j hjk p hj d ho with h|h
     ·exact .inl h
     ·exact .inr (List.take_subset_take_left _ (Nat.le_of_lt hjk) h)
    ·cases hj
def Zcb (es:List Ent) (i:Nat) (R:Nat->Bool):Nat->List Mth
 | 0=>[]
 | k+1=>Zcb es i R k++(if (k == i || R k)=true then Zar es k else [])
theorem Zfi {es:List Ent} {i:Nat} {R:Nat->Bool} (m:Mth):∀ n,m ∈ Zcb es i R n↔∃ k,k<n/\(k=i\/R k=true)/\m ∈ Zar es k
 | 0=>by simp [Zcb]
 | n+1=>by
  unfold Zcb;rw [Yao,Zfi m n];constructor
  ·rintro (⟨k,h1,h2⟩|h)
   ·exact ⟨k,by omega,h2⟩
   ·split at h
    ·rename_i hc
     refine ⟨n,by omega,?_,h⟩;rw [YaX,beq_iff_eq] at hc;exact hc
    ·cases h
  ·rintro ⟨k,h1,h2,h3⟩;rcases YaB k n with q|q
   ·exact .inl ⟨k,q,h2,h3⟩
   ·obtain rfl:k=n:=by omega
    refine .inr ?_;rw [YaC (by rw [YaX,beq_iff_eq];exact h2)];exact h3
theorem Zgf {es:List Ent} {i:Nat} {R:Nat->Bool} (h:∀ k,(Zar es k).length<=32):∀ n,(Zcb es i R n).length<=n * 32
 | 0=>by simp [Zcb]
 | n+1=>by
  unfold Zcb;have h1:=Zgf (i:=i) (R:=R) h n;have h2:=h n;rw [Yak];split
  ·omega
  ·simp;omega
theorem Wise.all_above {es:List Ent} (W:Wise es) {i:Nat} (hi:i<es.length) {R:Nat->Bool} (hR:∀ k,k<es.length->(R k=true↔Over es i k)) (m:Mth) :
  m ∈ Zcb es i R es.length↔∃ y ∈ ZaE es (some i),m ∈ Zar es y:=by
 rw [Zfi];constructor
 ·rintro ⟨k,h1,h2,h3⟩;refine ⟨k,(W.above_iff hi k).2 ?_,h3⟩;rcases h2 with e|h
  ·rw [e];exact .refl _
  ·exact ((hR k h1).1 h).up
 ·rintro ⟨y,hy,hm⟩;have hyl:y<es.length:=by
   unfold Zar at hm;cases he:es[y]? with
   | none=>rw [he] at hm;cases hm
   | some e=>exact (Yag.1 he).1
  refine ⟨y,hyl,?_,hm⟩;rcases ((W.above_iff hi y).1 hy).over with e|h
  ·exact .inl e.symm
  ·exact .inr ((hR y hyl).2 h)
def Zeo (l:List Mth):Prop:=∃ (a b:Nat) (x y:Mth),b<a/\l[a]? = some x/\l[b]? = some y/\x.name=y.name/\ZaJ x ≠ ZaJ y
theorem Wise.differ_pair {es:List Ent} (W:Wise es) {i:Nat} (hi:i<es.length) {R:Nat->Bool} (hR:∀ k,k<es.length->(R k=true↔Over es i k)) :
  Zpf es i↔Zeo (Zcb es i R es.length):=by
 constructor
 ·rintro ⟨y,hy,m,hm,z,hz,k,hk,hn,hs⟩;obtain ⟨a,ha⟩:=Ya0.1 ((W.all_above hi hR m).2 ⟨y,hy,hm⟩);obtain ⟨b,hb⟩:=Ya0.1 ((W.all_above hi hR k).2 ⟨z,hz,hk⟩);rcases Nat.lt_trichotomy a b with q|q|q
  ·exact ⟨b,a,k,m,q,hb,ha,hn.symm,fun e=>hs e.symm⟩
  ·subst q;rw [ha] at hb;obtain rfl:=Yae hb;exact absurd rfl hs
  ·exact ⟨a,b,m,k,q,ha,hb,hn,hs⟩
 ·rintro ⟨a,b,x,y,_,ha,hb,hn,hs⟩;obtain ⟨p,hp,hm⟩:=(W.all_above hi hR x).1 (Yaf ha);obtain ⟨q,hq,hk⟩:=(W.all_above hi hR y).1 (Yaf hb);exact ⟨p,hp,x,hm,q,hq,y,hk,hn,hs⟩
theorem Wise.lack_all {es:List Ent} (W:Wise es) {i:Nat} (hi:i<es.length) {R:Nat->Bool} (hR:∀ k,k<es.length->(R k=true↔Over es i k)) :
  Lack es i↔Zcl es i=false/\∃ m ∈ Zcb es i R es.length,absM es i m.name=true:=by
 constructor
 ·rintro ⟨h,y,hy,m,hm,ha⟩;exact ⟨h,m,(W.all_above hi hR m).2 ⟨y,hy,hm⟩,ha⟩
 ·rintro ⟨h,m,hm,ha⟩;obtain ⟨y,hy,hm⟩:=(W.all_above hi hR m).1 hm;exact ⟨h,y,hy,m,hm,ha⟩
theorem Wise.all_has {es:List Ent} (W:Wise es) {i:Nat} (hi:i<es.length) {R:Nat->Bool} (hR:∀ k,k<es.length->(R k=true↔Over es i k)) {m:Mth} (hm:m ∈ Zcb es i R es.length) :
  ∃ r,ZbI es (some i) m.name=some r:=by
 obtain ⟨y,hy,hm⟩:=(W.all_above hi hR m).1 hm;exact YaM.1 (Zdc hy hm)
def Zbx (m:Mth):List (List UInt8):=m.params++(if m.res=[] then [] else [m.res])
def ZcT (c:Cls):List (List UInt8):=c.flds.map Fld.kind++c.mths.flatMap Zbx
theorem Zkk (es:List Ent) (c:Cls):ZcB es c=(ZcT c).all (ZbY es):=by
 unfold ZcB ZcT;rw [Ybk,Yar,Ybg,Ybg,YaT,YaT,YaE];constructor
 ·rintro ⟨h1,h2⟩ s hs;rcases Yao.1 hs with h|h
  ·obtain ⟨f,hf,rfl⟩:=Ya6.1 h;have:=h1 f hf
   simpa using this
  ·obtain ⟨m,hm,h⟩:=YbB.1 h;have q:=h2 m hm;rw [YaX,not_or,Bool.not_eq_true,YaT] at q;unfold Zbx at h;rcases Yao.1 h with h|h
   ·have:=q.1 s h;simpa using this
   ·split at h
    ·cases h
    ·rename_i hr
     rw [YaA.1 h];have:=q.2
     simpa [hr] using this
 ·intro h;refine ⟨fun f hf=>?_,fun m hm=>?_⟩
  ·have:=h f.kind (Ya7 _ (Ya6.2 ⟨f,hf,rfl⟩));simp [this]
  ·have hk:∀ s ∈ Zbx m,ZbY es s=true:=fun s hs=>h s (YaZ _ (YbB.2 ⟨m,hm,hs⟩))
   unfold Zbx at hk;rw [YaX,not_or,Bool.not_eq_true,YaT];refine ⟨fun s hs=>by have:=hk s (Ya7 _ hs);simp [this],?_⟩;by_cases hr:m.res=[]
   ·simp [hr]
   ·have:=hk m.res (YaZ _ (by rw [Yas hr];exact YaA.2 rfl));simp [hr,this]
theorem Zjg {es:List Ent} {x:Nat} (h:chkT es x=0):ZdR es x=false/\ZcB es (ZeV es x)=true/\ZaL es x=false/\Zb0 es x=false:=by
 unfold chkT at h;split at h
 ·cases h
 split at h
 ·cases h
 split at h
 ·cases h
 split at h
 ·cases h
 simp_all
theorem Wise.chk_pair {es:List Ent} (W:Wise es) {i:Nat} (hi:i<es.length) {R:Nat->Bool} (hR:∀ k,k<es.length->(R k=true↔Over es i k)) (hanc:∀ d ∈ Zap es (upAt es i),chkT es d=0) :
  (ZaL es i=true↔Zeo (Zcb es i R es.length))/\(Zb0 es i=true↔Zcl es i=false/\∃ m ∈ Zcb es i R es.length,absM es i m.name=true):=
 ⟨(W.differs_iff hi (fun d hd=>(Zjg (hanc d hd)).2.2.1)).trans (W.differ_pair hi hR),(W.lacks_iff hi (fun d hd=>(Zjg (hanc d hd)).2.2.2)).trans (W.lack_all hi hR)⟩
theorem ZgD {es:List Ent} (ha:Acyc es) (hp:Zc3 es):∀ (f:Nat) (out:List Nat) (i:Nat),i<es.length->out.Nodup->(∀ x ∈ out,x<es.length)->(putE es f out i).Nodup/\∀ x ∈ putE es f out i,x<es.length/\(x ∈ out\/Up es i x)
 | 0,out,i,_,hn,hb=>⟨hn,fun x hx=>⟨hb x hx,.inl hx⟩⟩
 | f+1,out,i,hi,hn,hb=>by
  unfold putE;split
  ·exact ⟨hn,fun x hx=>⟨hb x hx,.inl hx⟩⟩
  ·rename_i hs
   have fold:∀ (l out2:List Nat),(∀ d ∈ l,d ∈ parE es i)->out2.Nodup->(∀ x ∈ out2,x<es.length/\(x ∈ out\/∃ d ∈ parE es i,Up es d x))->
     (l.foldl (putE es f) out2).Nodup/\∀ x ∈ l.foldl (putE es f) out2,x<es.length/\(x ∈ out\/∃ d ∈ parE es i,Up es d x):=by
    intro l;induction l with
    | nil=>intro out2 _ h1 h2;exact ⟨h1,h2⟩
    | cons d l ih=>
     intro out2 hd h1 h2;rw [YaK];have hdm:=hd d Yal;obtain ⟨q1,q2⟩:=ZgD ha hp f out2 d (hp i d hdm) h1 (fun x hx=>(h2 x hx).1);refine ih _ (fun x hx=>hd x (Yap _ hx)) q1 (fun x hx=>⟨(q2 x hx).1,?_⟩);rcases (q2 x hx).2 with h|h
     ·exact (h2 x h).2
     ·exact .inr ⟨d,hdm,h⟩
   obtain ⟨q1,q2⟩:=fold (parE es i) out (fun _ h=>h) hn (fun x hx=>⟨hb x hx,.inl hx⟩);refine ⟨?_,fun x hx=>?_⟩
   ·rw [Yb6];refine ⟨q1,by simp,fun a ha1 b hb1 e=>?_⟩;rw [YaA.1 hb1] at e;subst e;rcases (q2 a ha1).2 with h|⟨d,hd,hu⟩
    ·exact hs (.inr h)
    ·exact ha a ⟨d,hd,hu⟩
   ·rcases Yao.1 hx with h|h
    ·refine ⟨(q2 x h).1,(q2 x h).2.imp id (fun ⟨d,hd,hu⟩=>.step hd hu)⟩
    ·rw [YaA.1 h];exact ⟨hi,.inr (.refl _)⟩
def putO (es:List Ent) (f:Nat) (out:List Nat) (o:Option Nat):List Nat:=match o with|none=>out|some i=>putE es f out i
theorem Lined.upsMap {cs:List Cls} (h:Lined cs) {i:Nat} {e:Ent} (he:(newT cs)[i]? = some e):(e.cls.sup :: e.cls.like).map (Zad (newT cs))=e.up :: e.lk.map some:=by rw [YbJ,h.sup he,h.like he]
theorem Zpc {es:List Ent} {i:Nat} {e:Ent} (he:es[i]? = some e) (f:Nat) (out:List Nat):(e.up :: e.lk.map some).foldl (putO es f) out=(parE es i).foldl (putE es f) out:=by
 have h2:∀ (l:List Nat) (out:List Nat),(l.map some).foldl (putO es f) out=l.foldl (putE es f) out:=by
  intro l;induction l with
  | nil=>intro out;rfl
  | cons d l ih=>intro out;rw [YbJ,YaK,YaK];exact ih _
 rw [ZcK he,YaK,h2];unfold Ent.par putO;cases e.up with
 | none=>rfl
 | some j=>rfl
def rowC (n:Nat) (f:Nat->Bool):List Value:=(List.range n).map fun j=>.bool (f j)
theorem Znx {n:Nat} {f:Nat->Bool} {j:Nat} (h:j<n):(rowC n f)[j]? = some (.bool (f j)):=by unfold rowC;rw [Yau,Ybl h];rfl
theorem Zo2 (n:Nat):List.replicate n (Value.bool false)=rowC n (fun _=>false):=by
 apply Yb3
 intro j;unfold rowC;rw [Ycn,Yau];by_cases h:j<n
 ·rw [YaC h,Ybl h];rfl
 ·rw [Yas h,YaN (by rw [Yb5];omega)];rfl
theorem ZjB (n:Nat) (f:Nat->Bool) (j:Nat) (b:Bool):(rowC n f).set j (.bool b)=rowC n (fun x=>if x=j then b else f x):=by
 apply Yb3
 intro k;unfold rowC;rw [List.getElem?_set,Yau,Yaz,Yb5];by_cases hk:k<n
 ·by_cases h:j=k
  ·subst h;rw [YaC rfl,YaC hk,Yau,Ybl hk];simp
  ·rw [Yas h,Yau,Ybl hk];simp only [YbS];rw [Yas (fun e=>h e.symm)]
 ·rw [Yau,YaN (l:=List.range n) (by rw [Yb5];omega)];split
  ·rename_i h;subst h;rw [Yas hk];rfl
  ·rfl
theorem Zcx {n:Nat} {f g:Nat->Bool} (h:∀ j,j<n->f j=g j):rowC n f=rowC n g:=by
 unfold rowC;exact Ycg (fun j hj=>by rw [h j (YbL.1 hj)])
def rowV (n b:Nat):Value:=.slice (some ⟨b,0,none⟩) n n
structure Mat (lo n:Nat) (w:World) (RB:List Nat) (M:Nat->Nat->Bool):Prop where
 lo:∀ b ∈ RB,lo<=b
 nd:RB.Nodup
 row:∀ (i b:Nat),RB[i]? = some b->MRow w b n 4 (rowC n (M i))
section
variable {lo n:Nat} {w w':World} {RB:List Nat} {M:Nat->Nat->Bool}
theorem Mat.nil:Mat lo n w [] M:=⟨fun b h=>(by cases h),Yb7,fun i b h=>(by simp at h)⟩
theorem Mat.keep {S:Nat->Prop} (h:Mat lo n w RB M) (ho:Only S w w') (hS:∀ b ∈ RB,¬ S b):Mat lo n w' RB M:=
 ⟨h.lo,h.nd,fun i b hb=>(h.row i b hb).keep ho (hS b (Yaf hb))⟩
theorem Mat.below (h:Mat lo n w RB M) (hb:Below w.heap.size w w'):Mat lo n w' RB M:=h.keep (Yad (S:=fun _=>False) hb) (fun _ _=>id)
theorem Mat.cell (h:Mat lo n w RB M) {i b j:Nat} (hb:RB[i]? = some b) (hj:j<n):w.cell? ⟨b,j,none⟩=some (.bool (M i j)):=by
 rw [(h.row i b hb).at_ j hj];exact Znx hj
theorem Mat.free (h:Mat lo n w RB M) {i b:Nat} (hb:RB[i]? = some b) (j:Nat):w.frozen? ⟨b,j,none⟩=false:=(h.row i b hb).free j
theorem Mat.at_inj (h:Mat lo n w RB M) {i k b:Nat} (hi:RB[i]? = some b) (hk:RB[k]? = some b):i=k:=by
 obtain ⟨h1,h2⟩:=Yag.1 hi;obtain ⟨h3,h4⟩:=Yag.1 hk;have hne:=List.pairwise_iff_getElem.1 h.nd;rcases Nat.lt_trichotomy i k with q|q|q
 ·exact absurd (h2.trans h4.symm) (hne i k h1 h3 q)
 ·exact q
 ·exact absurd (h4.trans h2.symm) (hne k i h3 h1 q)
theorem Mat.set (h:Mat lo n w RB M) {i b:Nat} (hb:RB[i]? = some b) (j:Nat) (x:Bool):Mat lo n (w.setCell ⟨b,j,none⟩ (.bool x)) RB (updM M i j x):=by
 refine ⟨h.lo,h.nd,fun k c hc=>?_⟩;by_cases e:k=i
 ·subst e;rw [hb] at hc;obtain rfl:=Yae hc;have q:=(h.row k b hb).set j (.bool x);rw [ZjB] at q;have e2:rowC n (updM M k j x k)=rowC n (fun y=>if y=j then x else M k y):=Zcx (fun y _=>by
   unfold updM;by_cases hy:y=j
   ·rw [YaC ⟨rfl,hy⟩,YaC hy]
   ·rw [Yas (fun q=>hy q.2),Yas hy])
  rw [e2];exact q
 ·have hne:c ≠ b:=fun q=>e (h.at_inj hc (q ▸ hb))
  have q:=(h.row k c hc).keep ((Yan (fun z=>z=b) w).setCell (p:=⟨b,j,none⟩) rfl (.bool x)) hne;have e2:rowC n (updM M i j x k)=rowC n (M k):=Zcx (fun y _=>by unfold updM;rw [Yas (fun q=>e q.1)]);rw [e2];exact q
theorem Mat.snoc (h:Mat lo n w RB M) {b:Nat} {f:Nat->Bool} (hr:MRow w b n 4 (rowC n f)) (hb:lo<=b) (hn:b ∉ RB):Mat lo n w (RB++[b]) (fun i=>if i=RB.length then f else M i):=by
 refine ⟨fun c hc=>?_,?_,fun i c hc=>?_⟩
 ·rcases Yao.1 hc with hc|hc
  ·exact h.lo c hc
  ·rw [YaA.1 hc];exact hb
 ·rw [Yb6];exact ⟨h.nd,by simp,fun a ha c hc e=>hn (by rw [←YaA.1 hc,←e];exact ha)⟩
 ·rcases YaB i RB.length with hi|hi
  ·rw [YaP hi] at hc;rw [Yas (by omega)];exact h.row i c hc
  ·rw [YaH hi] at hc;have h0:i - RB.length=0:=by
    rcases YbP (i - RB.length) with h0|h0
    ·exact h0
    ·rw [YaN (by simp;omega)] at hc;cases hc
   rw [h0] at hc;obtain rfl:=Yae (show some b=some c from hc);rw [YaC (by omega)];exact hr
end
def upsB (L:List Cls) (c:Cls) (k j:Nat):Bool:=((c.sup :: c.like).take k).any fun n=>Za2 L n == some j
def ZgP (L:List Cls) (i j:Nat):Bool:=match L[i]? with|some c=>upsB L c (c.like.length+1) j|none=>false
theorem ZnH (L:List Cls) (i j:Nat):ZgP L i j=true↔StepR L i j:=by
 unfold ZgP StepR upsB;cases L[i]? with
 | none=>exact ⟨fun h=>(by cases h),fun ⟨c,h,_⟩=>(by cases h)⟩
 | some c=>
  have e:(c.sup :: c.like).take (c.like.length+1)=c.sup :: c.like:=Yaw (by simp);simp only [e,YaQ,beq_iff_eq,Yba];constructor
  ·rintro ⟨n,hn,h⟩;exact ⟨c,rfl,n,hn,h⟩
  ·rintro ⟨_,rfl,n,hn,h⟩;exact ⟨n,hn,h⟩
theorem ZnR (L:List Cls) (c:Cls) (j:Nat):upsB L c 0 j=false:=by simp [upsB]
theorem ZnQ (L:List Cls) (c:Cls) (k j:Nat) (n:List UInt8) (h:(c.sup :: c.like)[k]? = some n):upsB L c (k+1) j=(upsB L c k j || Za2 L n == some j):=by
 unfold upsB;rw [Zah _ _ k n h]
def ZgT (L:List Cls) (w:World) (e:Ending) (w':World):Prop:=∃ (RB:List Nat) (v:Value) (M:Nat->Nat->Bool),e=.returned v/\Mat w.heap.size L.length w' RB M/\RB.length=L.length/\
 Src 1 (Flat (rowV L.length)) (fun k=>w.heap.size<=k) w' v RB/\(∀ a b,a<L.length->b<L.length->(M a b=true↔Plus (StepR L) a b))/\Below w.heap.size w w'
theorem Zi6 {α:Type} {f:α->Value} {n:Nat} (hn:∀ x,(f x).cells.size=n) (W:World) (x:α) (t:TypeId):Src n (Flat f) Anyw (W.alloc (.cells (f x).cells t)) (.slice (some ⟨W.heap.size,0,none⟩) 1 1) [x]:=by
 refine .inr ⟨W.heap.size,0,1,rfl,⟨trivial,by simp,Yac _,by decide⟩,fun k y hy=>?_⟩;cases k with
 | zero=>
  obtain rfl:=Yae hy;exact ⟨f x,rfl,hn x,fun j u hj=>by
   have q:=(Box.new W (f x).cells t).cell j hj;rw [show 0+0 * n+j=j by omega];exact q⟩
 | succ k=>simp at hy
theorem Zej {α:Type} {n:Nat} {R:Zao α} (t:TypeId) (lo:Nat) (W:World) (h:lo<=W.heap.size):TRow n t R lo (W.alloc (.cells #[] t)) (.slice (some ⟨W.heap.size,0,none⟩) 0 0) [] []:=
 ⟨⟨by simp [ZaM],.inr ⟨W.heap.size,0,#[],rfl,Yai _,heap_alloc_new W _,Yac _,Yai _,by simp,by simp [ZaM]⟩⟩,fun g hg=>by simp [Value.ownBlock] at hg;omega,rfl,fun u hu=>by simp at hu,fun k x hx=>by simp at hx⟩
theorem ZgM (lo:Nat) (W:World) (h:lo<=W.heap.size) (s:List UInt8):TRow 1 9 StrR lo (W.alloc (.cells #[.string (S s)] 9)) (.slice (some ⟨W.heap.size,0,none⟩) 1 1) [s] [.string (S s)]:=
 ⟨⟨rfl,.inr ⟨W.heap.size,1,#[.string (S s)],rfl,Yai _,heap_alloc_new W _,Yac _,by decide,rfl,rfl⟩⟩,fun g hg=>by simp [Value.ownBlock] at hg;omega,rfl,fun u hu=>by rw [YaA.1 hu];rfl,fun k x hx=>by
  cases k with
  | zero=>obtain rfl:=Yae hx;exact ⟨_,rfl,rfl⟩
  | succ k=>simp at hx⟩
theorem ZcN {A:Nat->Prop} (lo:Nat) (W:World) (v sv:Value) (ty:TypeId) (l1 l2:List (List UInt8)) (h1:TRow 1 9 StrR lo W v l1 (l1.map strV)) (hlo:lo<=W.heap.size) (h2:Src 1 StrR A W sv l2) (hl:l1.length+l2.length<=1048576) :
  ∃ v' w',(Builtin.append_ #[22,22] ty #[v,sv]).run Tryz.prog W=.ok v' w'/\TRow 1 9 StrR lo w' v' (l1++l2) ((l1++l2).map strV)/\Grew W v w' v':=by
 obtain ⟨j0,hji,hz0,hz1,hz2⟩:=info_parts Zgt;exact ZbC (f:=strV) (n:=1) (by decide) (fun x=>rfl) (fun x u hu=>by simp [Value.cells,strV] at hu;rw [hu];rfl) 22 ty 9 j0 _ 16 Tryz.underlying22 hji hz0 hz1 hz2 rfl h1 hlo h2 (by omega) (by omega)
theorem Ze5 {A:Nat->Prop} (lo:Nat) (W:World) (v sv:Value) (ty:TypeId) (l1 l2:List Fld) (h1:TRow 3 99 FldR lo W v l1 (l1.map fldV)) (hlo:lo<=W.heap.size) (h2:Src 3 FldR A W sv l2) (hl:l1.length+l2.length<=1048576) :
  ∃ v' w',(Builtin.append_ #[84,84] ty #[v,sv]).run Tryz.prog W=.ok v' w'/\TRow 3 99 FldR lo w' v' (l1++l2) ((l1++l2).map fldV)/\Grew W v w' v':=by
 obtain ⟨j0,hji,hz0,hz1,hz2⟩:=info_parts Zos;exact ZbC (f:=fldV) (n:=3) (by decide) (fun _=>rfl) (fun x u hu=>by simp [Value.cells] at hu;rcases hu with rfl|rfl|rfl <;> rfl) 84 ty 99 j0 _ 40 Tryz.underlying84 hji hz0 hz1 hz2 rfl h1 hlo h2 (by omega) (by omega)
theorem Zmp:(Tryz.prog.info? 91).map (fun i=>(i.zero,i.size,i.bytes))=some (some (.slice none 0 0),1,24):=by kernel_rfl
theorem ZiY {A:Nat->Prop} (n lo:Nat) (W:World) (v sv:Value) (ty:TypeId) (l1 l2:List Nat) (h1:TRow 1 91 (Flat (rowV n)) lo W v l1 (l1.map (rowV n))) (hlo:lo<=W.heap.size) (h2:Src 1 (Flat (rowV n)) A W sv l2) (hl:l1.length+l2.length<=1048576) :
  ∃ v' w',(Builtin.append_ #[102,102] ty #[v,sv]).run Tryz.prog W=.ok v' w'/\TRow 1 91 (Flat (rowV n)) lo w' v' (l1++l2) ((l1++l2).map (rowV n))/\Grew W v w' v':=by
 obtain ⟨j0,hji,hz0,hz1,hz2⟩:=info_parts Zmp;exact ZbC (f:=rowV n) (n:=1) (by decide) (fun x=>rfl) (fun x u hu=>by simp [Value.cells,rowV] at hu;rw [hu];rfl) 102 ty 91 j0 _ 24 Tryz.underlying102 hji hz0 hz1 hz2 rfl h1 hlo h2 (by omega) (by omega)
theorem Zmr:(Tryz.prog.info? 3).map (fun i=>(i.zero,i.size,i.bytes))=some (some (.int .i64 0),1,8):=by kernel_rfl
def natV (k:Nat):Value:=.int .i64 (k:Nat)
theorem ZiG {A:Nat->Prop} (lo:Nat) (W:World) (v sv:Value) (ty:TypeId) (l1 l2:List Nat) (h1:TRow 1 3 (Flat natV) lo W v l1 (l1.map natV)) (hlo:lo<=W.heap.size) (h2:Src 1 (Flat natV) A W sv l2) (hl:l1.length+l2.length<=1048576) :
  ∃ v' w',(Builtin.append_ #[38,38] ty #[v,sv]).run Tryz.prog W=.ok v' w'/\TRow 1 3 (Flat natV) lo w' v' (l1++l2) ((l1++l2).map natV)/\Grew W v w' v':=by
 obtain ⟨j0,hji,hz0,hz1,hz2⟩:=info_parts Zmr;exact ZbC (f:=natV) (n:=1) (by decide) (fun x=>rfl) (fun x u hu=>by simp [Value.cells,natV] at hu;rw [hu];rfl) 38 ty 3 j0 _ 8 Tryz.underlying38 hji hz0 hz1 hz2 rfl h1 hlo h2 (by omega) (by omega)
