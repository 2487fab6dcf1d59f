/- laws -/
import Derived.Test.YtggcdinoflchjaaGreatDoorK24
import Derived.Shelf.Strings.OnBuilder
set_option maxRecDepth 100000
set_option maxHeartbeats 16000000
namespace Go.Proofs.YtggcdinoflchjaaGreatDoor
open Go.RowKit
inductive Up (es:List Ent):Nat->Nat->Prop
 | refl (x:Nat):Up es x x
 | step {x d y:Nat}:d ∈ parE es x->Up es d y->Up es x y
theorem Up.trans {es:List Ent} {x y z:Nat} (h:Up es x y) (k:Up es y z):Up es x z:=by
 induction h with
 | refl=>exact k
 | step h1 _ ih=>exact .step h1 (ih k)
theorem Up.one {es:List Ent} {x d:Nat} (h:d ∈ parE es x):Up es x d:=.step h (.refl _)
def Over (es:List Ent) (x y:Nat):Prop:=∃ d ∈ parE es x,Up es d y
theorem Up.over {es:List Ent} {x y:Nat} (h:Up es x y):x=y\/Over es x y:=by
 cases h with
 | refl=>exact .inl rfl
 | step h1 h2=>exact .inr ⟨_,h1,h2⟩
theorem Over.up {es:List Ent} {x y:Nat} (h:Over es x y):Up es x y:=let ⟨_,h1,h2⟩:=h;.step h1 h2
theorem Over.then {es:List Ent} {x y z:Nat} (h:Over es x y) (k:Up es y z):Over es x z:=let ⟨d,h1,h2⟩:=h;⟨d,h1,h2.trans k⟩
theorem Up.inv {es:List Ent} {P:Nat->Prop} (hP:∀ x d,P x->d ∈ parE es x->P d) {x y:Nat} (h:Up es x y) (hx:P x):P y:=by
 induction h with
 | refl=>exact hx
 | step h1 _ ih=>exact ih (hP _ _ hx h1)
abbrev Grp.num (s:Grp) (x:Nat):Nat:=s.met.getD x 0
abbrev Grp.flag (s:Grp) (x:Nat):Bool:=s.loop.getD x false
structure TJ (es:List Ent) (n:Nat) (gs:List Nat) (s:Grp):Prop where
 gi:GI n s
 llen:s.loop.length=n
 opn:∀ x,x ∈ s.opn↔s.num x ≠ 0/\s.num x ≠ ZaX
 le:∀ x ∈ s.opn,s.num x<=s.cnt
 ord:s.opn.Pairwise fun x y=>s.num x<s.num y
 closed:∀ x,s.num x=ZaX->∀ d ∈ parE es x,s.num d=ZaX
 black:∀ x ∈ s.opn,x ∉ gs->∀ d ∈ parE es x,s.num d ≠ 0
 grey:∀ x ∈ s.opn,∃ g ∈ gs,g ∈ s.opn/\s.num g<=s.num x/\Up es x g
 flags:∀ x,s.num x=ZaX->(s.flag x=true↔Over es x x)
 gsub:∀ g ∈ gs,g ∈ s.opn
structure TX (es:List Ent) (c:Nat) (s s':Grp):Prop where
 same:∀ x,s.num x ≠ 0->s'.num x=s.num x
 tail:∃ l,s'.opn=s.opn++l/\∀ x ∈ l,s.cnt<s'.num x
 cnt:s.cnt<=s'.cnt
 from_:∀ x,s.num x=0->s'.num x ≠ 0->Up es c x
 left:ZaZ s'.met<=ZaZ s.met
theorem TX.refl (es:List Ent) (c:Nat) (s:Grp):TX es c s s:=⟨fun _ _=>rfl,⟨[],by simp,fun _ h=>(by cases h)⟩,Yac _,fun x h k=>absurd h k,Yac _⟩
theorem TX.trans {es:List Ent} {c:Nat} {s s1 s2:Grp} (h:TX es c s s1) (k:TX es c s1 s2):TX es c s s2:=by
 obtain ⟨l,hl,hn⟩:=h.tail;obtain ⟨l',hl',hn'⟩:=k.tail;refine ⟨fun x hx=>by rw [k.same x (by rw [h.same x hx];exact hx),h.same x hx],⟨l++l',by rw [hl',hl,YaW],fun x hx=>?_⟩,Yaq h.cnt k.cnt,fun x h0 h2=>?_,Yaq k.left h.left⟩
 ·rcases Yao.1 hx with hx|hx
  ·have h1:=hn x hx;rw [k.same x (by omega)];exact h1
  ·have:=hn' x hx;have:=h.cnt;omega
 ·by_cases h1:s1.num x=0
  ·exact k.from_ x h1 h2
  ·exact h.from_ x h0 h1
theorem TX.mono {es:List Ent} {c d:Nat} {s s':Grp} (h:TX es d s s') (hd:Up es c d):TX es c s s':=⟨h.same,h.tail,h.cnt,fun x a b=>hd.trans (h.from_ x a b),h.left⟩
theorem TX.mem {es:List Ent} {c:Nat} {s s':Grp} (h:TX es c s s') {x:Nat} (hx:x ∈ s.opn):x ∈ s'.opn:=by
 obtain ⟨l,hl,_⟩:=h.tail;rw [hl];exact Ya7 _ hx
theorem TX.old {es:List Ent} {c:Nat} {s s':Grp} (h:TX es c s s') {x:Nat} (hx:x ∈ s'.opn) (hn:s'.num x<=s.cnt):x ∈ s.opn:=by
 obtain ⟨l,hl,h2⟩:=h.tail;rw [hl] at hx;rcases Yao.1 hx with h1|h1
 ·exact h1
 ·have:=h2 x h1;omega
structure TM (es:List Ent) (n:Nat) (gs:List Nat) (c:Nat) (s s':Grp) (v:Nat):Prop where
 tj:TJ es n gs s'
 tx:TX es c s s'
 met:s'.num c ≠ 0
 num:c ∈ s'.opn->s'.num c=s.cnt+1
 low:v=s.cnt+1\/v<s.cnt+1/\∃ y ∈ s.opn,s.num y=v/\Up es c y
 edge:∀ x ∈ s'.opn,s.cnt<s'.num x->∀ d ∈ parE es x,d ∈ s'.opn->v<=s'.num d
 pos:0<v
theorem Zdp {α:Type} (z d0:α):∀ (l:List Nat) (m:List α) (x:Nat),x<m.length->(l.foldl (fun m c=>m.set c z) m).getD x d0=if x ∈ l then z else m.getD x d0
 | [],m,x,_=>by simp
 | c :: l,m,x,hx=>by
  rw [YaK,Zdp z d0 l (m.set c z) x (by simpa using hx)];by_cases h1:x ∈ l
  ·rw [YaC h1,YaC (Yap c h1)]
  ·rw [Yas h1];by_cases h2:x=c
   ·subst h2;rw [YaC Yal,Yam,Ybv hx];rfl
   ·rw [Yas (fun h=>(Yav.1 h).elim h2 h1),Yam,Ybt (fun e=>h2 e.symm),Yam]
theorem ZeE {α:Type} (z:α):∀ (l:List Nat) (m:List α),(l.foldl (fun m c=>m.set c z) m).length=m.length
 | [],m=>rfl
 | c :: l,m=>by rw [YaK,ZeE z l];simp
theorem ZiO {n:Nat} {s:Grp} (h:GI n s) {x:Nat} (hx:n<=x):s.num x=0:=by
 show s.met.getD x 0=0
 rw [Yam,YaN (by rw [h.mlen];exact hx)];rfl
theorem ZpP {n:Nat} {s:Grp} (h:GI n s) {x:Nat} (hx:s.num x ≠ 0):x<n:=by
 rcases YaB x n with h1|h1
 ·exact h1
 ·exact absurd (ZiO h h1) hx
theorem Zkx {n:Nat} {s:Grp} (h:GI n s) (k x:Nat) (hx:x<n):(ZbS s k).num x=if x ∈ s.opn.drop k then ZaX else s.num x:=
 Zdp ZaX 0 _ _ x (by rw [h.mlen];exact hx)
theorem ZiA {n:Nat} {s:Grp} (h:s.loop.length=n) (k x:Nat) (hx:x<n):(ZbS s k).flag x=if x ∈ s.opn.drop k then decide (1<(s.opn.drop k).length) else s.flag x:=
 Zdp _ false _ _ x (by rw [h];exact hx)
theorem Ze0 {n:Nat} {s:Grp} (h:GI n s) {c:Nat} (hc:c<n) (x:Nat):(ZaT s c).num x=if x=c then s.cnt+1 else s.num x:=by
 show (s.met.set c (s.cnt+1)).getD x 0=_
 rw [Yam];split
 ·rename_i e
  subst e;rw [Ybv (by rw [h.mlen];exact hc)];rfl
 ·rename_i e
  rw [Ybt (fun q=>e q.symm),←Yam]
theorem TJ.enter {es:List Ent} {n:Nat} {gs:List Nat} {s:Grp} (h:TJ es n gs s) (hn:n<=1048576) {c:Nat} (hc:c<n) (h0:s.num c=0):TJ es n (c :: gs) (ZaT s c)/\TX es c s (ZaT s c):=by
 have hg:=(h.gi.enter hn hc h0).1;have hnum:=Ze0 h.gi hc;have hcn:c ∉ s.opn:=fun q=>((h.opn c).1 q).1 h0
 have hcnt:=hg.cnt;have hcb:s.cnt+1<=1048576:=by have:(ZaT s c).cnt=s.cnt+1:=rfl;omega
 have hmem:∀ x,x ∈ (ZaT s c).opn↔x ∈ s.opn\/x=c:=fun x=>by
  show x ∈ s.opn++[c]↔_
  simp
 have hold:∀ x ∈ s.opn,(ZaT s c).num x=s.num x:=fun x hx=>by
  rw [hnum,Yas (show ¬ x=c from fun e=>hcn (e ▸ hx))]
 refine ⟨⟨hg,h.llen,fun x=>?_,fun x hx=>?_,?_,fun x hx d hd=>?_,fun x hx hx2 d hd=>?_,fun x hx=>?_,fun x hx=>?_,fun g hg=>?_⟩,⟨fun x hx=>?_,⟨[c],rfl,fun x hx=>?_⟩,Nat.le_succ _,fun x hx hx2=>?_,by have:=(h.gi.enter hn hc h0).2.1;omega⟩⟩
 ·rw [hmem,hnum];by_cases e:x=c
  ·subst e;rw [YaC rfl];constructor
   ·intro _;exact ⟨by omega,by show s.cnt+1 ≠ 9223372036854775807;omega⟩
   ·intro _;exact .inr rfl
  ·rw [Yas e,←h.opn x];exact ⟨fun q=>q.resolve_right e,.inl⟩
 ·show (ZaT s c).num x<=s.cnt+1
  rcases (hmem x).1 hx with h1|h1
  ·rw [hold x h1];have:=h.le x h1;omega
  ·subst h1;rw [hnum,YaC rfl];exact Yac _
 ·show (s.opn++[c]).Pairwise _
  rw [List.pairwise_append];refine ⟨?_,List.pairwise_singleton _ _,fun x hx y hy=>?_⟩
  ·refine h.ord.imp_of_mem (fun hx hy hlt=>?_);rw [hold _ hx,hold _ hy];exact hlt
  ·rw [YaA.1 hy,hold x hx,hnum,YaC rfl];have:=h.le x hx;omega
 ·rw [hnum] at hx ⊢;by_cases e:x=c
  ·rw [YaC e] at hx
   exfalso
   have:ZaX=9223372036854775807:=rfl;omega
  ·rw [Yas e] at hx;have:=h.closed x hx d hd;rw [Yas (fun q=>?_)]
   ·exact this
   ·subst q;rw [this] at h0;cases h0
 ·have hxo:x ∈ s.opn:=((hmem x).1 hx).resolve_right (fun e=>hx2 (e ▸ Yal));have:=h.black x hxo (fun q=>hx2 (Yap c q)) d hd;rw [hnum];split
  ·omega
  ·exact this
 ·rcases (hmem x).1 hx with h1|h1
  ·obtain ⟨g,hg1,hg2,hg3,hg4⟩:=h.grey x h1;exact ⟨g,Yap c hg1,(hmem g).2 (.inl hg2),by rw [hold g hg2,hold x h1];exact hg3,hg4⟩
  ·subst h1;exact ⟨x,Yal,hx,Yac _,.refl _⟩
 ·have hx':s.num x=ZaX:=by
   rw [hnum] at hx;by_cases e:x=c
   ·rw [YaC e] at hx
    exfalso
    have:ZaX=9223372036854775807:=rfl;omega
   ·rw [Yas e] at hx;exact hx
  exact h.flags x hx'
 ·rcases Yav.1 hg with e|e
  ·exact (hmem g).2 (.inr e)
  ·exact (hmem g).2 (.inl (h.gsub g e))
 ·rw [hnum,Yas (show ¬ x=c from fun e=>hx (e ▸ h0))]
 ·rw [YaA.1 hx,hnum,YaC rfl];exact Nat.lt_succ_self _
 ·rw [hnum] at hx2;by_cases e:x=c
  ·subst e;exact .refl _
  ·rw [Yas e] at hx2;exact absurd hx hx2
structure TF (es:List Ent) (n:Nat) (gs:List Nat) (c:Nat) (s:Grp) (ds:List Nat) (t:Grp × Nat):Prop where
 tj:TJ es n (c :: gs) t.1
 tx:TX es c (ZaT s c) t.1
 low:t.2=s.cnt+1\/t.2<s.cnt+1/\∃ y ∈ s.opn,s.num y=t.2/\Up es c y
 edge:∀ x ∈ t.1.opn,s.cnt+1<t.1.num x->∀ d ∈ parE es x,d ∈ t.1.opn->t.2<=t.1.num d
 own:∀ d ∈ ds,t.1.num d ≠ 0/\(d ∈ t.1.opn->t.2<=t.1.num d)
 pos:0<t.2
theorem TF.step {es:List Ent} {n:Nat} {gs:List Nat} {c:Nat} {s:Grp} {ds:List Nat} {t:Grp × Nat} (m:Grp->Nat->Grp × Nat) (h0:TJ es n gs s) (hn:n<=1048576) (hc:c<n) (hw:s.num c=0) (h:TF es n gs c s ds t) {d:Nat} (hd:d ∈ parE es c)
  (hm:t.1.num d=0->TM es n (c :: gs) d t.1 (m t.1 d).1 (m t.1 d).2):TF es n gs c s (ds++[d]) (ZbA m t d):=by
 have hnum:=Ze0 h0.gi hc;have hcn:c ∉ s.opn:=fun q=>((h0.opn c).1 q).1 hw
 have hold:∀ x ∈ s.opn,(ZaT s c).num x=s.num x:=fun x hx=>by
  rw [hnum,Yas (show ¬ x=c from fun e=>hcn (e ▸ hx))]
 have hnz:∀ x ∈ s.opn,s.num x ≠ 0:=fun x hx=>((h0.opn x).1 hx).1
 have hcnt0:(ZaT s c).cnt=s.cnt+1:=rfl;have hc0:=h.tx.cnt;unfold ZbA;by_cases hz:t.1.met.getD d 0=0
 ·rw [YaC hz];obtain ⟨j1,j2,j3,j4,j5,j6,j7⟩:=hm hz;refine ⟨j1,h.tx.trans (j2.mono (.one hd)),?_,fun x hx hnx e he heo=>?_,fun e he=>?_,?_⟩
  ·dsimp only;rcases j5 with e|⟨e1,y,y1,y2,y3⟩
   ·have hmin:min t.2 (m t.1 d).2=t.2:=by
     rcases h.low with q|⟨q,_⟩ <;> omega
    rw [hmin];exact h.low
   ·by_cases hle:t.2<=(m t.1 d).2
    ·rw [Ybe hle];exact h.low
    ·rw [Nat.min_eq_right (by omega)];rcases h.low with q|⟨q,_⟩
     ·have hy:y ∈ (ZaT s c).opn:=h.tx.old y1 (by rw [hcnt0];omega);have hy':y ∈ s.opn:=by
       rcases Yao.1 (show y ∈ s.opn++[c] from hy) with q1|q1
       ·exact q1
       ·exfalso
        rw [YaA.1 q1] at y2;have h1:=h.tx.same c (by rw [hnum,YaC rfl];omega);rw [hnum,YaC rfl] at h1;omega
      refine .inr ⟨by omega,y,hy',?_,(Up.one hd).trans y3⟩;rw [←y2,h.tx.same y (by rw [hold y hy'];exact hnz y hy'),hold y hy']
     ·have hy:y ∈ (ZaT s c).opn:=h.tx.old y1 (by rw [hcnt0];omega);have hy':y ∈ s.opn:=by
       rcases Yao.1 (show y ∈ s.opn++[c] from hy) with q1|q1
       ·exact q1
       ·exfalso
        rw [YaA.1 q1] at y2;have h1:=h.tx.same c (by rw [hnum,YaC rfl];omega);rw [hnum,YaC rfl] at h1;omega
      refine .inr ⟨by omega,y,hy',?_,(Up.one hd).trans y3⟩;rw [←y2,h.tx.same y (by rw [hold y hy'];exact hnz y hy'),hold y hy']
  ·dsimp only at hx hnx heo ⊢;by_cases hnew:t.1.cnt<(m t.1 d).1.num x
   ·have:=j6 x hx hnew e he heo;omega
   ·have hxo:=j2.old hx (by omega);have hx1:=(((h.tj.opn x).1 hxo).1);have hxs:=j2.same x hx1;have hb:e ∈ t.1.opn:=by
     have hxc:x ∉ gs\/True:=.inr trivial;have hne:t.1.num e ≠ 0:=by
      refine h.tj.black x hxo (fun q=>?_) e he;rcases Yav.1 q with q|q
      ·have h1:=h.tx.same c (by rw [hnum,YaC rfl];omega);rw [hnum,YaC rfl,←q] at h1;omega
      ·have h2:=h0.gsub x q;have h1:=h.tx.same x (by rw [hold x h2];exact hnz x h2);rw [hold x h2] at h1;have:=h0.le x h2;omega
     rw [h.tj.opn];refine ⟨hne,?_⟩;rw [←j2.same e hne];exact ((j1.opn e).1 heo).2
    have h1:=h.edge x hxo (by rw [←hxs];exact hnx) e he hb;rw [j2.same e ((h.tj.opn e).1 hb).1];omega
  ·dsimp only;rcases Yao.1 he with he|he
   ·obtain ⟨o1,o2⟩:=h.own e he;have hs:=j2.same e o1;refine ⟨by rw [hs];exact o1,fun q=>?_⟩;have h1:=o2 (by rw [h.tj.opn];refine ⟨o1,?_⟩;rw [←hs];exact ((j1.opn e).1 q).2);rw [hs];omega
   ·rw [YaA.1 he];refine ⟨j3,fun q=>?_⟩;have h1:=j4 q;rcases j5 with e1|⟨e1,_⟩ <;> omega
  ·dsimp only;have:=h.pos;omega
 ·rw [Yas hz];have hlow:min t.2 (t.1.num d)=s.cnt+1\/min t.2 (t.1.num d)<s.cnt+1/\∃ y ∈ s.opn,s.num y=min t.2 (t.1.num d)/\Up es c y:=by
   by_cases hle:t.2<=t.1.num d
   ·rw [Ybe hle];exact h.low
   ·have ht2:t.2<=s.cnt+1:=by rcases h.low with q|⟨q,_⟩ <;> omega
    have hd1:d ∈ t.1.opn:=(h.tj.opn d).2 ⟨hz,by have h4:ZaX=9223372036854775807:=rfl;have h5:=h.tj.gi.cnt;rw [hcnt0] at hc0;omega⟩;have hy:d ∈ (ZaT s c).opn:=h.tx.old hd1 (by rw [hcnt0];omega);have hy':d ∈ s.opn:=by
     rcases Yao.1 (show d ∈ s.opn++[c] from hy) with q1|q1
     ·exact q1
     ·exfalso
      have q2:=YaA.1 q1;have h1:=h.tx.same c (by rw [hnum,YaC rfl];omega);rw [hnum,YaC rfl] at h1;rw [q2] at hle;omega
    rw [Nat.min_eq_right (by omega)];refine .inr ⟨by omega,d,hy',?_,.one hd⟩;rw [h.tx.same d (by rw [hold d hy'];exact hnz d hy'),hold d hy']
  refine ⟨h.tj,h.tx,hlow,fun x hx hnx e he heo=>?_,fun e he=>?_,?_⟩
  ·have:=h.edge x hx hnx e he heo;dsimp only;omega
  ·dsimp only;rcases Yao.1 he with he|he
   ·obtain ⟨o1,o2⟩:=h.own e he;refine ⟨o1,fun q=>?_⟩;have:=o2 q;omega
   ·rw [YaA.1 he];exact ⟨hz,fun _=>Nat.min_le_right _ _⟩
  ·have h1:=h.pos;dsimp only;omega

theorem TF.leave {es:List Ent} {n:Nat} {gs:List Nat} {c:Nat} {s:Grp} {t:Grp × Nat} (h0:TJ es n gs s) (hn:n<=1048576) (hc:c<n) (hw:s.num c=0) (hself:c ∉ parE es c) (h:TF es n gs c s (parE es c) t):TM es n gs c s (ZdS s t).1 (ZdS s t).2:=by
 have hnum:=Ze0 h0.gi hc;have hcn:c ∉ s.opn:=fun q=>((h0.opn c).1 q).1 hw
 have tx:TX es c s t.1:=(h0.enter hn hc hw).2.trans h.tx;have hnz:∀ x ∈ s.opn,s.num x ≠ 0:=fun x hx=>((h0.opn x).1 hx).1
 have hsame:∀ x ∈ s.opn,t.1.num x=s.num x:=fun x hx=>tx.same x (hnz x hx)
 have hcc:t.1.num c=s.cnt+1:=by
  have h1:=h.tx.same c (by rw [hnum,YaC rfl];omega);rw [hnum,YaC rfl] at h1;exact h1
 obtain ⟨l,hl,hl2⟩:=h.tx.tail;have hl0:t.1.opn=s.opn++(c :: l):=by
  rw [hl];show (s.opn++[c])++l=_
  simp
 have hl3:∀ x ∈ l,s.cnt+1<t.1.num x:=hl2
 have hGn:∀ x ∈ c :: l,s.cnt+1<=t.1.num x:=fun x hx=>by
  rcases Yav.1 hx with e|e
  ·rw [e,hcc];exact Yac _
  ·have:=hl3 x e;omega
 have hGo:∀ x ∈ c :: l,x ∈ t.1.opn:=fun x hx=>by rw [hl0];exact YaZ _ hx
 have hGi:∀ x ∈ t.1.opn,s.cnt<t.1.num x->x ∈ c :: l:=fun x hx hlt=>by
  rw [hl0] at hx;rcases Yao.1 hx with q|q
  ·have:=hsame x q;have:=h0.le x q;omega
  ·exact q
 have hco:c ∈ t.1.opn:=hGo c Yal;unfold ZdS;by_cases hv:t.2=s.cnt+1
 ·rw [YaC hv];have hdrop:t.1.opn.drop s.opn.length=c :: l:=by rw [hl0];simp
  have htake:t.1.opn.take s.opn.length=s.opn:=by rw [hl0];simp
  have hGs:∀ x ∈ c :: l,x ∉ s.opn:=fun x hx q=>by
   have h1:=hGn x hx;have h2:=hsame x q;have h3:=h0.le x q;omega
  have F1:∀ x ∈ c :: l,Up es c x:=fun x hx=>by
   rcases Yav.1 hx with e|e
   ·rw [e];exact .refl _
   ·by_cases hz:s.num x=0
    ·exact tx.from_ x hz (by have:=hl3 x e;omega)
    ·exfalso
     have h1:=tx.same x hz;have h2:=(h.tj.opn x).1 (hGo x hx);exact hGs x hx ((h0.opn x).2 ⟨hz,by rw [←h1];exact h2.2⟩)
  have F2:∀ x ∈ c :: l,∀ d ∈ parE es x,d ∈ c :: l\/t.1.num d=ZaX:=fun x hx d hd=>by
   have hnd:t.1.num d ≠ 0/\(d ∈ t.1.opn->t.2<=t.1.num d):=by
    rcases Yav.1 hx with e|e
    ·rw [e] at hd;exact h.own d hd
    ·have hlt:=hl3 x e;refine ⟨h.tj.black x (hGo x hx) (fun q=>?_) d hd,fun q=>h.edge x (hGo x hx) hlt d hd q⟩;rcases Yav.1 q with q|q
     ·rw [q] at hlt;omega
     ·have h2:=h0.gsub x q;have:=hsame x h2;have:=h0.le x h2;omega
   by_cases hd2:t.1.num d=ZaX
   ·exact .inr hd2
   ·have hdo:=(h.tj.opn d).2 ⟨hnd.1,hd2⟩;exact .inl (hGi d hdo (by have:=hnd.2 hdo;omega))
  have FP:∀ x d,(x ∈ c :: l\/t.1.num x=ZaX)->d ∈ parE es x->(d ∈ c :: l\/t.1.num d=ZaX):=fun x d hx hd=>by
   rcases hx with hx|hx
   ·exact F2 x hx d hd
   ·exact .inr (h.tj.closed x hx d hd)
  have F3:∀ x ∈ c :: l,Up es x c:=fun x hx=>by
   obtain ⟨g,g1,g2,g3,g4⟩:=h.tj.grey x (hGo x hx);have h1:=g4.inv FP (.inl hx);rcases Yav.1 g1 with e|e
   ·rw [←e];exact g4
   ·exfalso
    have hgo:=h0.gsub g e;rcases h1 with h1|h1
    ·exact hGs g h1 hgo
    ·exact ((h.tj.opn g).1 g2).2 h1
  have gi':=h.tj.gi.finish s.opn.length (by rw [hl0];simp);have hlt:∀ x ∈ c :: l,x<n:=fun x hx=>h.tj.gi.opn x (hGo x hx)
  have num':∀ x,(ZbS t.1 s.opn.length).num x=if x ∈ c :: l then ZaX else t.1.num x:=fun x=>by
   rcases YaB x n with hx|hx
   ·rw [Zkx h.tj.gi _ x hx,hdrop]
   ·rw [ZiO gi'.1 hx,Yas (fun q=>by have:=hlt x q;omega),ZiO h.tj.gi hx]
  have hopn':(ZbS t.1 s.opn.length).opn=s.opn:=htake;have nold:∀ x ∈ s.opn,(ZbS t.1 s.opn.length).num x=s.num x:=fun x hx=>by
   rw [num',Yas (fun q=>hGs x q hx),hsame x hx]
  have hndone:∀ x,t.1.num x=ZaX->(ZbS t.1 s.opn.length).num x=ZaX:=fun x hx=>by
   rw [num'];split
   ·rfl
   ·exact hx
  refine ⟨⟨gi'.1,?_,fun x=>?_,fun x hx=>?_,?_,fun x hx d hd=>?_,fun x hx hx2 d hd=>?_,fun x hx=>?_,fun x hx=>?_,fun g hg=>?_⟩,⟨fun x hx=>?_,⟨[],by dsimp only;rw [hopn'];simp,fun x hx=>(by cases hx)⟩,tx.cnt,fun x hx hx2=>?_,Yaq gi'.2.1 tx.left⟩,?_,fun q=>?_,.inl hv,fun x hx hx2=>?_,h.pos⟩
  ·exact (ZeE _ _ _).trans h.tj.llen
  ·dsimp only;rw [hopn'];constructor
   ·intro q;rw [nold x q];exact (h0.opn x).1 q
   ·rintro ⟨q1,q2⟩;rw [num'] at q1 q2;by_cases hx:x ∈ c :: l
    ·rw [YaC hx] at q2;exact absurd rfl q2
    ·rw [Yas hx] at q1 q2;have:=(h.tj.opn x).2 ⟨q1,q2⟩;rw [hl0] at this;exact (Yao.1 this).resolve_right hx
  ·dsimp only at hx ⊢;rw [hopn'] at hx;rw [nold x hx];exact Yaq (h0.le x hx) tx.cnt
  ·dsimp only;rw [hopn'];refine h0.ord.imp_of_mem (fun hx hy hq=>?_);rw [nold _ hx,nold _ hy];exact hq
  ·dsimp only at hx ⊢;by_cases hxG:x ∈ c :: l
   ·rcases F2 x hxG d hd with q|q
    ·rw [num',YaC q]
    ·exact hndone d q
   ·rw [num',Yas hxG] at hx;exact hndone d (h.tj.closed x hx d hd)
  ·dsimp only at hx ⊢;rw [hopn'] at hx;have h1:=h0.black x hx hx2 d hd;rw [num'];split
   ·decide
   ·rw [tx.same d h1];exact h1
  ·dsimp only at hx ⊢;rw [hopn'] at hx ⊢;obtain ⟨g,g1,g2,g3,g4⟩:=h0.grey x hx;exact ⟨g,g1,g2,by rw [nold g g2,nold x hx];exact g3,g4⟩
  ·dsimp only at hx ⊢;have hxn:x<n:=ZpP gi'.1 (by rw [hx];decide);rw [ZiA h.tj.llen _ x hxn,hdrop];by_cases hxG:x ∈ c :: l
   ·rw [YaC hxG];constructor
    ·intro q;have q1:1<(c :: l).length:=of_decide_eq_true q;have hord:=h.tj.ord;rw [hl0,List.pairwise_append] at hord;have hnod:∀ y ∈ l,y ≠ c:=fun y hy e=>by have:=hl3 y hy;rw [e] at this;omega
     obtain ⟨y,hy,hyx⟩:∃ y ∈ c :: l,y ≠ x:=by
      by_cases e:x=c
      ·cases l with
       | nil=>simp at q1
       | cons z l=>exact ⟨z,by simp,fun q=>hnod z (by simp) (q.trans e)⟩
      ·exact ⟨c,Yal,fun q=>e q.symm⟩
     have u1:Up es x y:=(F3 x hxG).trans (F1 y hy);have u2:Up es y x:=(F3 y hy).trans (F1 x hxG);rcases u1.over with e|e
     ·exact absurd e.symm hyx
     ·exact e.then u2
    ·intro q;refine Yat ?_;cases l with
     | cons z l=>simp
     | nil=>
      exfalso
      have e:x=c:=by simpa using hxG
      subst e;obtain ⟨d,hd,hu⟩:=q;rcases F2 x hxG d hd with q1|q1
      ·have e2:d=x:=by simpa using q1
       exact hself (e2 ▸ hd)
      ·have h1:t.1.num x=ZaX:=hu.inv (P:=fun y=>t.1.num y=ZaX) (fun a b ha hb=>h.tj.closed a ha b hb) q1;exact ((h.tj.opn x).1 hco).2 h1
   ·rw [Yas hxG];rw [num',Yas hxG] at hx;exact h.tj.flags x hx
  ·dsimp only;rw [hopn'];exact h0.gsub g hg
  ·dsimp only;have h1:=tx.same x hx;rw [num',Yas (fun q=>?_),h1];by_cases hd:s.num x=ZaX
   ·rw [hd] at h1;exact ((h.tj.opn x).1 (hGo x q)).2 h1
   ·exact hGs x q ((h0.opn x).2 ⟨hx,hd⟩)
  ·dsimp only at hx2;rw [num'] at hx2;by_cases hxG:x ∈ c :: l
   ·exact F1 x hxG
   ·rw [Yas hxG] at hx2;exact tx.from_ x hx hx2
  ·dsimp only;rw [num',YaC Yal];decide
  ·dsimp only at q;rw [hopn'] at q;exact absurd q hcn
  ·dsimp only at hx hx2;rw [hopn'] at hx;rw [nold x hx] at hx2;have:=h0.le x hx;omega
 ·rw [Yas hv];obtain ⟨hv1,y,hy,hy2,hy3⟩:=h.low.resolve_left hv;refine ⟨⟨h.tj.gi,h.tj.llen,h.tj.opn,h.tj.le,h.tj.ord,h.tj.closed,fun x hx hx2 d hd=>?_,fun x hx=>?_,h.tj.flags,fun g hg=>tx.mem (h0.gsub g hg)⟩,tx,by rw [hcc];omega,fun _=>hcc,.inr ⟨hv1,y,hy,hy2,hy3⟩,fun x hx hx2 d hd hdo=>?_,h.pos⟩
  ·by_cases e:x=c
   ·rw [e] at hd;exact (h.own d hd).1
   ·exact h.tj.black x hx (fun q=>(Yav.1 q).elim e hx2) d hd
  ·obtain ⟨g,g1,g2,g3,g4⟩:=h.tj.grey x hx;rcases Yav.1 g1 with e|e
   ·subst e;obtain ⟨g',k1,k2,k3,k4⟩:=h0.grey y hy;refine ⟨g',k1,tx.mem k2,?_,g4.trans (hy3.trans k4)⟩;rw [hsame g' k2];omega
   ·exact ⟨g,e,g2,g3,g4⟩
  ·by_cases hlt:s.cnt+1<t.1.num x
   ·exact h.edge x hx hlt d hd hdo
   ·have hxG:=hGi x hx hx2;have e:x=c:=by
     rcases Yav.1 hxG with e|e
     ·exact e
     ·have:=hl3 x e;omega
    rw [e] at hd;exact (h.own d hd).2 hdo
theorem Zjr {es:List Ent} {n:Nat} (hn:n<=1048576) (hpar:∀ c,∀ d ∈ parE es c,d<n) (hself:∀ c,c ∉ parE es c):∀ (f:Nat) (gs:List Nat) (s:Grp) (c:Nat),TJ es n gs s->c<n->s.num c=0->ZaZ s.met<=f->TM es n gs c s (ZaQ es f s c).1 (ZaQ es f s c).2
 | 0,gs,s,c,h,hc,hw,hf=>absurd hw (ZfU (by rw [h.gi.mlen];exact hc) (by omega))
 | f+1,gs,s,c,h,hc,hw,hf=>by
  have ih:=Zjr hn hpar hself f;obtain ⟨e1,e2⟩:=h.enter hn hc hw;have hle:=(h.gi.enter hn hc hw).2.1;have fold:∀ (l ds:List Nat) (t:Grp × Nat),(∀ d ∈ l,d ∈ parE es c)->TF es n gs c s ds t->TF es n gs c s (ds++l) (l.foldl (ZbA (ZaQ es f)) t):=by
   intro l;induction l with
   | nil=>intro ds t _ ht;rw [Ya2];exact ht
   | cons d l ihl=>
    intro ds t hd ht;rw [YaK,show ds++d :: l=(ds++[d])++l by simp];refine ihl _ _ (fun x hx=>hd x (Yap d hx)) (ht.step (ZaQ es f) h hn hc hw (hd d Yal) (fun hz=>?_));refine ih (c :: gs) t.1 d ht.tj (hpar c d (hd d Yal)) hz ?_;have:=ht.tx.left;omega
  have start:TF es n gs c s [] (ZaT s c,s.cnt+1):=by
   refine ⟨e1,.refl _ _ _,.inl rfl,fun x hx hlt=>?_,fun d hd=>(by cases hd),Nat.succ_pos _⟩;have:=e1.le x hx;have h2:(ZaT s c).cnt=s.cnt+1:=rfl;dsimp only at hlt;omega
  have h1:=fold (parE es c) [] _ (fun _ q=>q) start;rw [Ybm] at h1;exact h1.leave h hn hc hw (hself c)
theorem Zkp {es:List Ent} {n:Nat} (hn:n<=1048576) (hpar:∀ c,∀ d ∈ parE es c,d<n) (hself:∀ c,c ∉ parE es c):∀ k,k<=n->
  TJ es n [] ((List.range k).foldl (fun s c=>if s.met.getD c 0=0 then (ZaQ es n s c).1 else s) ⟨List.replicate n 0,0,[],List.replicate n false⟩)/\∀ x,x<k->((List.range k).foldl (fun s c=>if s.met.getD c 0=0 then (ZaQ es n s c).1 else s) ⟨List.replicate n 0,0,[],List.replicate n false⟩:Grp).num x ≠ 0:=by
 intro k;induction k with
 | zero=>
  intro _;have hz:∀ x,(List.replicate n 0).getD x 0=0:=fun x=>by
   rw [Yam,Ycn];split <;> rfl
  refine ⟨⟨⟨by simp,fun c hc=>(by cases hc),?_,?_,fun z hz=>?_⟩,by simp,fun x=>?_,fun x hx=>(by cases hx),.nil,fun x hx=>?_,fun x hx=>(by cases hx),fun x hx=>(by cases hx),fun x hx=>?_,fun g hg=>(by cases hg)⟩,fun x hx=>absurd hx (YbO _)⟩
  ·have:=ZdE (List.replicate n 0);rw [Ybz] at this;show 0+ZaZ (List.replicate n 0)<=n
   omega
  ·have:=ZdE (List.replicate n 0);rw [Ybz] at this;show 0+ZaZ (List.replicate n 0)<=n
   omega
  ·rw [(List.mem_replicate.1 hz).2];exact Yai _
  ·constructor
   ·intro q;cases q
   ·rintro ⟨q,_⟩;exact absurd (hz x) q
  ·rw [show Grp.num _ x=0 from hz x] at hx;cases hx
  ·rw [show Grp.num _ x=0 from hz x] at hx;cases hx
 | succ k ih=>
  intro hk;obtain ⟨h1,h2⟩:=ih (by omega);rw [YbR,Ya8,YaK,List.foldl_nil];generalize (List.range k).foldl (fun s c=>if s.met.getD c 0=0 then (ZaQ es n s c).1 else s) ⟨List.replicate n 0,0,[],List.replicate n false⟩=s at h1 h2 ⊢;by_cases hz:s.met.getD k 0=0
  ·rw [YaC hz];have h3:=Zjr hn hpar hself n [] s k h1 (by omega) hz (by have:=ZdE s.met;rw [h1.gi.mlen] at this;exact this);refine ⟨h3.tj,fun x hx=>?_⟩;by_cases e:x=k
   ·rw [e];exact h3.met
   ·have:=h2 x (by omega);rw [h3.tx.same x this];exact this
  ·rw [Yas hz];refine ⟨h1,fun x hx=>?_⟩;by_cases e:x=k
   ·rw [e];exact hz
   ·exact h2 x (by omega)
theorem ZdG {es:List Ent} {n:Nat} (hn:n<=1048576) (hpar:∀ c,∀ d ∈ parE es c,d<n) (hself:∀ c,c ∉ parE es c):(ZaI es n).loop.length=n/\∀ x,x<n->((ZaI es n).loop.getD x false=true↔Over es x x):=by
 obtain ⟨h1,h2⟩:=Zkp hn hpar hself n (Yac _);refine ⟨h1.llen,fun x hx=>h1.flags x ?_⟩;rcases YaB 0 0 with q|_
 ·omega
 ·by_cases hd:Grp.num (ZaI es n) x=ZaX
  ·exact hd
  ·exfalso
   have ho:=(h1.opn x).2 ⟨h2 x hx,hd⟩;obtain ⟨g,hg,_⟩:=h1.grey x ho;cases hg
def Acyc (es:List Ent):Prop:=∀ x,¬ Over es x x
def Zc3 (es:List Ent):Prop:=∀ c,∀ d ∈ parE es c,d<es.length
theorem Zgo {n:Nat} {V:List Nat} (hn:V.Nodup) (hb:∀ v ∈ V,v<n) (hl:n<=V.length) {i:Nat} (hi:i<n):i ∈ V:=by
 refine Decidable.byContradiction fun h=>?_
 have h1:=ZcI n (i :: V) (Ycs.2 ⟨h,hn⟩) (fun x hx=>by
  rcases Yav.1 hx with e|e
  ·exact e ▸ hi
  ·exact hb x e)
 rw [YaI] at h1;omega
theorem Zko (es:List Ent) (f:Nat):Zfd es f none=[]:=by cases f <;> rfl
theorem ZbG {es:List Ent} {i j:Nat} {e:Ent} (he:es[i]? = some e) (hj:e.up=some j):j ∈ parE es i:=by
 rw [ZcK he];unfold Ent.par;rw [hj];simp
theorem Zcs {es:List Ent} {i j:Nat} {e:Ent} (he:es[i]? = some e) (hj:j ∈ e.lk):j ∈ parE es i:=by
 rw [ZcK he];unfold Ent.par;exact YaZ _ hj
theorem Over.snoc {es:List Ent} {x y d:Nat} (h:Over es x y) (hd:d ∈ parE es y):Over es x d:=h.then (.one hd)
theorem Over.one {es:List Ent} {x d:Nat} (hd:d ∈ parE es x):Over es x d:=⟨d,hd,.refl _⟩
theorem ZfJ {es:List Ent} (ha:Acyc es) (hp:Zc3 es):∀ (f:Nat) (V:List Nat) (i:Nat),(∀ v ∈ V,Over es v i)->V.Nodup->(∀ v ∈ V,v<es.length)->es.length<=V.length+f->i<es.length->Zdw es (Zfd es f (some i)) (some i)
 | 0,V,i,h1,h2,h3,h4,h5=>absurd (h1 i (Zgo h2 h3 (by omega) h5)) (ha i)
 | f+1,V,i,h1,h2,h3,h4,h5=>by
  obtain ⟨e,he⟩:∃ e,es[i]? = some e:=⟨_,Yaa h5⟩
  have hl:Zfd es (f+1) (some i)=i :: Zfd es f e.up:=by
   show (match es[i]? with|some e=>i :: Zfd es f e.up|none=>[])=_
   rw [he]
  rw [hl];refine ⟨rfl,e,he,?_⟩;cases hu:e.up with
  | none=>rw [Zko];exact rfl
  | some j=>
   have hj:=ZbG he hu;refine ZfJ ha hp f (i :: V) j (fun v hv=>?_) (Ycs.2 ⟨fun q=>ha i (h1 i q),h2⟩) (fun v hv=>?_) (by rw [YaI];omega) (hp i j hj)
   ·rcases Yav.1 hv with q|q
    ·rw [q];exact .one hj
    ·exact (h1 v q).snoc hj
   ·rcases Yav.1 hv with q|q
    ·rw [q];exact h5
    ·exact h3 v q
theorem Zg9 {es:List Ent} (ha:Acyc es) (hp:Zc3 es):∀ (f:Nat) (V l:List Nat),(∀ v ∈ V,∀ d ∈ l,Over es v d)->V.Nodup->(∀ v ∈ V,v<es.length)->es.length<=V.length+f->(∀ d ∈ l,d<es.length)->Deep es f l
 | 0,V,l,h1,h2,h3,h4,h5=>by
  cases l with
  | nil=>exact rfl
  | cons d l=>exact absurd (h1 d (Zgo h2 h3 (by omega) (h5 d Yal)) d Yal) (ha d)
 | f+1,V,l,h1,h2,h3,h4,h5=>fun d hd=>by
  have hdl:=h5 d hd;obtain ⟨e,he⟩:∃ e,es[d]? = some e:=⟨_,Yaa hdl⟩
  refine ⟨e,he,Zg9 ha hp f (d :: V) e.lk (fun v hv x hx=>?_) (Ycs.2 ⟨fun q=>ha d (h1 d q d hd),h2⟩) (fun v hv=>?_) (by rw [YaI];omega) (fun x hx=>hp d x (Zcs he hx))⟩
  ·rcases Yav.1 hv with q|q
   ·rw [q];exact .one (Zcs he hx)
   ·exact (h1 v q d hd).snoc (Zcs he hx)
  ·rcases Yav.1 hv with q|q
   ·rw [q];exact hdl
   ·exact h3 v q
theorem Acyc.shape {es:List Ent} (ha:Acyc es) (hp:Zc3 es) (h1:es.length<=1048576) (h2:∀ (i:Nat) (e:Ent),es[i]? = some e->e.lk.length<=9223372036854775807) (h3:∀ (i:Nat) (e:Ent),es[i]? = some e->e.cls.flds.length<=32) (h4:∀ (i:Nat) (e:Ent),es[i]? = some e->e.cls.name.length<=32):Shape es:=
 ⟨h1,h2,h3,h4,fun i hi=>ZfJ ha hp es.length [] i (fun v hv=>by cases hv) .nil (fun v hv=>by cases hv) (by simp) hi,
  fun i e he=>Zg9 ha hp es.length [] e.lk (fun v hv=>by cases hv) .nil (fun v hv=>by cases hv) (by simp) (fun d hd=>hp i d (Zcs he hd))⟩
inductive Lup (es:List Ent):Nat->Nat->Prop
 | refl (x:Nat):Lup es x x
 | step {x d y:Nat}:d ∈ lkOf es x->Lup es d y->Lup es x y
theorem Lup.trans {es:List Ent} {x y z:Nat} (h:Lup es x y) (k:Lup es y z):Lup es x z:=by
 induction h with
 | refl=>exact k
 | step h1 _ ih=>exact .step h1 (ih k)
theorem Lup.inv {es:List Ent} {P:Nat->Prop} (hP:∀ x d,P x->d ∈ lkOf es x->P d) {x y:Nat} (h:Lup es x y) (hx:P x):P y:=by
 induction h with
 | refl=>exact hx
 | step h1 _ ih=>exact ih (hP _ _ hx h1)
theorem Zh7 (es:List Ent) (f:Nat) (M l:List Nat):vis es (f+1) M l=l.foldl (Zbq es f M) []:=rfl
theorem ZdK (es:List Ent):∀ (f:Nat) (M l:List Nat),∀ x ∈ vis es f M l,∃ d ∈ l,Lup es d x
 | 0,M,l,x,hx=>by cases hx
 | f+1,M,l,x,hx=>by
  have ih:=ZdK es f;have fold:∀ (l acc:List Nat),∀ x ∈ l.foldl (Zbq es f M) acc,x ∈ acc\/∃ d ∈ l,Lup es d x:=by
   intro l;induction l with
   | nil=>intro acc x hx;exact .inl hx
   | cons d l ihl=>
    intro acc x hx;rw [YaK] at hx;rcases ihl _ x hx with h1|⟨e,he,hu⟩
    ·unfold Zbq at h1;split at h1
     ·exact .inl h1
     ·rcases Yao.1 h1 with h2|h2
      ·exact .inl h2
      ·rcases Yav.1 h2 with h3|h3
       ·exact .inr ⟨d,Yal,h3 ▸ .refl _⟩
       ·obtain ⟨e,he,hu⟩:=ih _ _ x h3;exact .inr ⟨d,Yal,.step he hu⟩
    ·exact .inr ⟨e,Yap d he,hu⟩
  rcases fold l [] x (by rw [←Zh7];exact hx) with h|h
  ·cases h
  ·exact h
theorem Zez {es:List Ent}:∀ (f:Nat) (M l:List Nat),Deep es f l->(∀ d ∈ l,d ∈ M++vis es f M l)/\∀ x ∈ vis es f M l,∀ d ∈ lkOf es x,d ∈ M++vis es f M l
 | 0,M,l,h=>by
  obtain rfl:l=[]:=h;exact ⟨fun d hd=>by (cases hd),fun x hx=>by (cases hx)⟩
 | f+1,M,l,h=>by
  have ih:=fun M l=>Zez (es:=es) f M l
  have fold:∀ (l acc:List Nat),(∀ d ∈ l,∃ e,es[d]? = some e/\Deep es f e.lk)->(∀ x ∈ acc,∀ d ∈ lkOf es x,d ∈ M++acc)->
    (∀ d ∈ l,d ∈ M++l.foldl (Zbq es f M) acc)/\∀ x ∈ l.foldl (Zbq es f M) acc,∀ d ∈ lkOf es x,d ∈ M++l.foldl (Zbq es f M) acc:=by
   intro l;induction l with
   | nil=>intro acc _ h2;exact ⟨fun d hd=>by (cases hd),h2⟩
   | cons d l ihl=>
    intro acc h1 h2;rw [YaK];obtain ⟨e,he,hde⟩:=h1 d Yal;have hacc:∀ x ∈ Zbq es f M acc d,∀ y ∈ lkOf es x,y ∈ M++Zbq es f M acc d:=by
     intro x hx y hy;by_cases hc:(M++acc).contains d=true
     ·have hs:Zbq es f M acc d=acc:=by unfold Zbq;rw [YaC hc]
      rw [hs] at hx ⊢;exact h2 x hx y hy
     ·have hs:Zbq es f M acc d=acc++d :: vis es f (M++acc++[d]) (lkOf es d):=by unfold Zbq;rw [Yas hc]
      rw [hs] at hx ⊢;obtain ⟨i1,i2⟩:=ih (M++acc++[d]) (lkOf es d) (by rw [Zba he];exact hde);have hsub:∀ z,z ∈ M++acc++[d]++vis es f (M++acc++[d]) (lkOf es d)->z ∈ M++(acc++d :: vis es f (M++acc++[d]) (lkOf es d)):=fun z hz=>by
       simpa [YaW] using hz
      rcases Yao.1 hx with hx|hx
      ·have:=h2 x hx y hy;rcases Yao.1 this with q|q
       ·exact Ya7 _ q
       ·exact YaZ _ (Ya7 _ q)
      ·rcases Yav.1 hx with hx|hx
       ·rw [hx] at hy;exact hsub y (i1 y hy)
       ·exact hsub y (i2 x hx y hy)
    obtain ⟨j1,j2⟩:=ihl (Zbq es f M acc d) (fun x hx=>h1 x (Yap d hx)) hacc;refine ⟨fun x hx=>?_,j2⟩;rcases Yav.1 hx with e1|hx
    ·have hd0:x ∈ M++Zbq es f M acc d:=by
      rw [e1];by_cases hc:(M++acc).contains d=true
      ·have hs:Zbq es f M acc d=acc:=by unfold Zbq;rw [YaC hc]
       rw [hs];exact YbQ.1 hc
      ·have hs:Zbq es f M acc d=acc++d :: vis es f (M++acc++[d]) (lkOf es d):=by unfold Zbq;rw [Yas hc]
       rw [hs];simp
     rcases Yao.1 hd0 with q|q
     ·exact Ya7 _ q
     ·exact YaZ _ ((Zd8 es f M l _).subset q)
    ·exact j1 x hx
  exact fold l [] h (fun x hx=>by (cases hx))
theorem Zgq {es:List Ent} {f:Nat} {L:List Nat} (hL:∀ d ∈ L,∃ e,es[d]? = some e/\Deep es f e.lk) (x:Nat):x ∈ ifsL es f L↔∃ d ∈ L,∃ k ∈ lkOf es d,Lup es k x:=by
 have fold:∀ (L acc:List Nat),(∀ d ∈ L,∃ e,es[d]? = some e/\Deep es f e.lk)->(∀ x ∈ acc,∀ d ∈ lkOf es x,d ∈ acc)->
   (∀ x,x ∈ L.foldl (fun acc d=>acc++vis es f acc (lkOf es d)) acc↔x ∈ acc\/∃ d ∈ L,∃ k ∈ lkOf es d,Lup es k x):=by
  intro L;induction L with
  | nil=>intro acc _ _ x;simp
  | cons d L ih=>
   intro acc h1 h2 x;rw [YaK];obtain ⟨e,he,hde⟩:=h1 d Yal;obtain ⟨c1,c2⟩:=Zez f acc (lkOf es d) (by rw [Zba he];exact hde);have hcl:∀ x ∈ acc++vis es f acc (lkOf es d),∀ y ∈ lkOf es x,y ∈ acc++vis es f acc (lkOf es d):=fun x hx y hy=>by
    rcases Yao.1 hx with q|q
    ·exact Ya7 _ (h2 x q y hy)
    ·exact c2 x q y hy
   rw [ih _ (fun z hz=>h1 z (Yap d hz)) hcl x];constructor
   ·rintro (h|⟨z,hz,k,hk,hu⟩)
    ·rcases Yao.1 h with q|q
     ·exact .inl q
     ·obtain ⟨k,hk,hu⟩:=ZdK es f acc _ x q;exact .inr ⟨d,Yal,k,hk,hu⟩
    ·exact .inr ⟨z,Yap d hz,k,hk,hu⟩
   ·rintro (h|⟨z,hz,k,hk,hu⟩)
    ·exact .inl (Ya7 _ h)
    ·rcases Yav.1 hz with e1|hz
     ·rw [e1] at hk;exact .inl (hu.inv (P:=fun y=>y ∈ acc++vis es f acc (lkOf es d)) (fun a b ha hb=>hcl a ha b hb) (c1 k hk))
     ·exact .inr ⟨z,hz,k,hk,hu⟩
 unfold ifsL;rw [fold L [] hL (fun x hx=>by (cases hx)) x];simp
theorem ZnU {es:List Ent} {f:Nat} {l:List Nat} (h:Deep es f l) (x:Nat):x ∈ vis es f [] l↔∃ d ∈ l,Lup es d x:=by
 constructor
 ·exact ZdK es f [] l x
 ·rintro ⟨d,hd,hu⟩;obtain ⟨c1,c2⟩:=Zez f [] l h;simp only [Ybm] at c1 c2;exact hu.inv (P:=fun y=>y ∈ vis es f [] l) (fun a b ha hb=>c2 a ha b hb) (c1 d hd)
end Go.Proofs.YtggcdinoflchjaaGreatDoor
namespace Go.Proofs.YtggcdinoflchjaaGreatDoor
open Go.Shelf Go.RowKit Go.Lib
def Ze9:Go.Shelf.Ren:=⟨fun|156=>226|165=>247|166=>248|169=>249|240=>256|241=>257|276=>265|277=>266|n=>n,fun|31=>22|9=>9|3=>3|4=>4|0=>0|20=>20|72=>209|76=>212|70=>207|37=>169|75=>211|127=>170|164=>224|5=>5|80=>142|n=>n,fun|n=>n⟩
theorem ZmM:Go.Proofs.Lays.n156 Tryz.prog Ze9:={
 mixed:=by kernel_rfl
 f156:=Tryz.func226.trans (Ya5 some (by kernel_rfl))
 f165:=Tryz.func247.trans (Ya5 some (by kernel_rfl))
 f166:=Tryz.func248.trans (Ya5 some (by kernel_rfl))
 f169:=Tryz.func249.trans (Ya5 some (by kernel_rfl))
 f240:=Tryz.func256.trans (Ya5 some (by kernel_rfl))
 f241:=Tryz.func257.trans (Ya5 some (by kernel_rfl))
 f276:=Tryz.func265.trans (Ya5 some (by kernel_rfl))
 f277:=Tryz.func266.trans (Ya5 some (by kernel_rfl))
 t0:=Tryz.underlying0
 a0:=Tryz.isAgg0
 z0:=Tryz.sizeOf0
 v0:=Tryz.zeroValue0
 t3:=Tryz.underlying3
 a3:=Tryz.isAgg3
 z3:=Tryz.sizeOf3
 v3:=Tryz.zeroValue3
 t4:=Tryz.underlying4
 a4:=Tryz.isAgg4
 z4:=Tryz.sizeOf4
 v4:=Tryz.zeroValue4
 t9:=Tryz.underlying9
 a9:=Tryz.isAgg9
 z9:=Tryz.sizeOf9
 v9:=Tryz.zeroValue9
 t20:=Tryz.underlying20
 a20:=Tryz.isAgg20
 z20:=Tryz.sizeOf20
 v20:=Tryz.zeroValue20
 t31:=Tryz.underlying22
 a31:=Tryz.isAgg22
 z31:=Tryz.sizeOf22
 v31:=Tryz.zeroValue22
 t37:=Tryz.underlying169
 a37:=Tryz.isAgg169
 z37:=Tryz.sizeOf169
 v37:=Tryz.zeroValue169
 t70:=Tryz.underlying207
 a70:=Tryz.isAgg207
 z70:=Tryz.sizeOf207
 v70:=Tryz.zeroValue207
 t72:=Tryz.underlying209
 a72:=Tryz.isAgg209
 z72:=Tryz.sizeOf209
 v72:=Tryz.zeroValue209
 t75:=Tryz.underlying211
 a75:=Tryz.isAgg211
 z75:=Tryz.sizeOf211
 v75:=Tryz.zeroValue211
 t76:=Tryz.underlying212
 a76:=Tryz.isAgg212
 z76:=Tryz.sizeOf212
 v76:=Tryz.zeroValue212
 t127:=Tryz.underlying170
 a127:=Tryz.isAgg170
 z127:=Tryz.sizeOf170
 v127:=Tryz.zeroValue170
 t164:=Tryz.underlying224
 a164:=Tryz.isAgg224
 z164:=Tryz.sizeOf224
 v164:=Tryz.zeroValue224 }
theorem Zc5:Builder.Extra Tryz.prog Ze9:={
 sizeBuilder:=by kernel_rfl
 liesBuilder:=by kernel_rfl
 t5:=Tryz.underlying5
 a5:=Tryz.isAgg5
 z5:=Tryz.sizeOf5
 v5:=Tryz.zeroValue5
 infoByte:=by kernel_rfl
 cellsByte:=by kernel_rfl
 sizeByte:=by kernel_rfl
 neB5:=by decide }
theorem strings_Join_none (a:Option Addr) (c:Nat) (sep:ByteArray) (w:World) :
  Calls Tryz.prog 226 #[.slice a 0 c,.string sep] w fun e w'=>e=.returned (.string ⟨#[]⟩)/\w'=w:=Any.strings_Join_none ZmM Zc5 a c sep w
theorem strings_Join (bk o c:Nat) (xs:List ByteArray) (sep:ByteArray) (w:World) (hcells:∀ (j:Nat) x,xs[j]? = some x->w.cell? ⟨bk,o+j,none⟩=some (.string x)) (hbk:bk<w.heap.size) (hN:xs.length<=140737488355328) (hcap:xs.length<=c) (hlen:(Lib.join (xs.map (·.data.toList)) sep.data.toList).length<=140737488355328) :
  Calls Tryz.prog 226 #[.slice (some ⟨bk,o,none⟩) xs.length c,.string sep] w fun e w'=>e=.returned (.string ⟨(Lib.join (xs.map (·.data.toList)) sep.data.toList).toArray⟩)/\Below w.heap.size w w':=Any.strings_Join ZmM Zc5 bk o c xs sep w hcells hbk hN hcap hlen
end Go.Proofs.YtggcdinoflchjaaGreatDoor
namespace Go.Proofs.YtggcdinoflchjaaGreatDoor
open Go.RowKit
def nameCells:List Value:=opTab.map fun x=>.string (S x.1)
theorem ZhI (k:Nat) (hk:k<42):nameCells[k]? = some (.string (S (ZaK k))):=by
 have hl:k<opTab.length:=by rw [ZcJ];exact hk
 rw [nameCells,Yau,Yaa hl,Zet k hl];rfl
theorem Zlc (w:World) :
  Calls Tryz.prog 64 #[] w fun e w'=>e=.returned (.slice (some ⟨w.heap.size,0,none⟩) 42 42)/\w.alloc (.cells nameCells.toArray 9)=w':=by
 go_enter Tryz.func64,Tryz.ntmps64;go_wp2;go_ret;exact ⟨rfl,Ya5 (fun a=>w.alloc (.cells a 9)) (by kernel_rfl)⟩
theorem Zkv (w:World) (k:Nat) (hk:k<42):(w.alloc (.cells nameCells.toArray 9)).cell? ⟨w.heap.size,k,none⟩=some (.string (S (ZaK k))):=by
 have h:=ZhI k hk;have hn:=heap_alloc_new w (.cells nameCells.toArray 9);unfold World.cell?;rw [hn]
 simpa using h
theorem ZgJ (s:List UInt8) (w:World) :
  Calls Tryz.prog 38 #[.string (S s)] w fun e w'=>e=.returned (.int .i64 (if idx s<42 then (idx s:Int) else -1))/\Below w.heap.size w w':=by
 obtain ⟨N,hN⟩:∃ N,N=idx s:=⟨_,rfl⟩
 rw [←hN];have hlo:∀ j,j<N->(ZaK j == s)=false:=fun j hj=>ZfS s j (by omega)
 have hat:N<42->(ZaK N == s)=true:=fun h=>by rw [hN];exact Zho s (by omega)
 have hle:N<=42:=by rw [hN];exact Zmh s
 have HLO:=Hd hlo;have HAT:=Hd hat;clear hlo hat hN;go_enter Tryz.func38,Tryz.ntmps38
 go_wp2_with (go_at_call 64;refine (Zlc _).mono ?_;rintro e w' ⟨rfl,rfl⟩)
 have hcell:Hid (∀ k,k<42->(w.alloc (.cells nameCells.toArray 9)).cell? ⟨w.heap.size,k,none⟩=some (.string (S (ZaK k)))):=Hd (fun k hk=>Zkv w k hk);have hbel:Below w.heap.size w (w.alloc (.cells nameCells.toArray 9)):=(Yab _ w).alloc (Yac _) _;generalize w.alloc (.cells nameCells.toArray 9)=w1 at hcell hbel ⊢;have HB:=Hd hbel;clear hbel
 go_loopw [4] (fun v4 wr=>wr=w1/\∃ k:Nat,k<=N/\v4=.int .i64 k) (fun v4 _=>42 - (intOf v4).toNat)
 case atStart=>exact ⟨rfl,0,Yai _,rfl⟩
 case round=>
  obtain ⟨rfl,k,hk,rfl⟩:=hrel;by_cases hlt:k<42
  ·have hlt':(k:Int)<42:=by omega
   have hk0:(0:Int)<=k:=by omega
   have hc:=hcell.o k hlt;have es:=Zae s;have en:=Zae (ZaK k);by_cases hkn:k<N
   ·have hne:=HLO.o k hkn;go_wp2
    go_roundw
    case rel=>exact ⟨trivial,k+1,by omega,by go_num⟩
    case measure=>simp [intOf];omega
   ·obtain rfl:k=N:=by omega
    have hne:=HAT.o hlt;go_wp2;go_ret;exact ⟨rfl,HB.o⟩
  ·obtain rfl:k=42:=by omega
   obtain rfl:N=42:=by omega
   go_wp2;go_ret;exact ⟨rfl,HB.o⟩
def refT (op:List UInt8):Int:=if idx op<42 then (if Zbm (idx op)=1 then 1 else if 2<=Zbm (idx op) then 2 else 0) else -1
def thirteen:List (List UInt8):=[[105,110,116],[108,111,97,100],[115,116,111,114,101],[106,117,109,112],[98,114,97,110,99,104],[119,111,114,100],[110,101,119],[103,101,116],[112,117,116],[99,97,108,108],[97,114,114,97,121],[105,115],[99,97,115,116]]
theorem Znt:∀ k:Fin 42,thirteen.contains (ZaK k.val)=false->Zbm k.val=0:=by decide
theorem Zns (op:List UInt8) (h:thirteen.contains op=false):refT op=if idx op<42 then 0 else -1:=by
 unfold refT;by_cases hN:idx op<42
 ·have e:=beq_iff_eq.1 (Zho op hN);have hz:=Znt ⟨idx op,hN⟩ (by show thirteen.contains (ZaK (idx op))=false;rw [e];exact h);have hz':Zbm (idx op)=0:=hz;rw [YaC hN,YaC hN,hz'];rfl
 ·rw [Yas hN,Yas hN]
theorem ZaS (op:List UInt8) (w:World) :
  Calls Tryz.prog 22 #[.string (S op)] w fun e w'=>e=.returned (.int .i64 (refT op))/\Below w.heap.size w w':=by
 have es:=Zae op;by_cases h0:op=[105,110,116]
 ·subst h0;rw [show refT [105,110,116]=1 from by decide];go_enter Tryz.func22,Tryz.ntmps22;go_wp2;go_ret;exact ⟨rfl,Yab _ _⟩
 have e0:(op == [105,110,116])=false:=by rw [Yah];exact h0
 by_cases h1:op=[108,111,97,100]
 ·subst h1;rw [show refT [108,111,97,100]=1 from by decide];go_enter Tryz.func22,Tryz.ntmps22;go_wp2;go_ret;exact ⟨rfl,Yab _ _⟩
 have e1:(op == [108,111,97,100])=false:=by rw [Yah];exact h1
 by_cases h2:op=[115,116,111,114,101]
 ·subst h2;rw [show refT [115,116,111,114,101]=1 from by decide];go_enter Tryz.func22,Tryz.ntmps22;go_wp2;go_ret;exact ⟨rfl,Yab _ _⟩
 have e2:(op == [115,116,111,114,101])=false:=by rw [Yah];exact h2
 by_cases h3:op=[106,117,109,112]
 ·subst h3;rw [show refT [106,117,109,112]=1 from by decide];go_enter Tryz.func22,Tryz.ntmps22;go_wp2;go_ret;exact ⟨rfl,Yab _ _⟩
 have e3:(op == [106,117,109,112])=false:=by rw [Yah];exact h3
 by_cases h4:op=[98,114,97,110,99,104]
 ·subst h4;rw [show refT [98,114,97,110,99,104]=1 from by decide];go_enter Tryz.func22,Tryz.ntmps22;go_wp2;go_ret;exact ⟨rfl,Yab _ _⟩
 have e4:(op == [98,114,97,110,99,104])=false:=by rw [Yah];exact h4
 by_cases h5:op=[119,111,114,100]
 ·subst h5;rw [show refT [119,111,114,100]=2 from by decide];go_enter Tryz.func22,Tryz.ntmps22;go_wp2;go_ret;exact ⟨rfl,Yab _ _⟩
 have e5:(op == [119,111,114,100])=false:=by rw [Yah];exact h5
 by_cases h6:op=[110,101,119]
 ·subst h6;rw [show refT [110,101,119]=2 from by decide];go_enter Tryz.func22,Tryz.ntmps22;go_wp2;go_ret;exact ⟨rfl,Yab _ _⟩
 have e6:(op == [110,101,119])=false:=by rw [Yah];exact h6
 by_cases h7:op=[103,101,116]
 ·subst h7;rw [show refT [103,101,116]=2 from by decide];go_enter Tryz.func22,Tryz.ntmps22;go_wp2;go_ret;exact ⟨rfl,Yab _ _⟩
 have e7:(op == [103,101,116])=false:=by rw [Yah];exact h7
 by_cases h8:op=[112,117,116]
 ·subst h8;rw [show refT [112,117,116]=2 from by decide];go_enter Tryz.func22,Tryz.ntmps22;go_wp2;go_ret;exact ⟨rfl,Yab _ _⟩
 have e8:(op == [112,117,116])=false:=by rw [Yah];exact h8
 by_cases h9:op=[99,97,108,108]
 ·subst h9;rw [show refT [99,97,108,108]=2 from by decide];go_enter Tryz.func22,Tryz.ntmps22;go_wp2;go_ret;exact ⟨rfl,Yab _ _⟩
 have e9:(op == [99,97,108,108])=false:=by rw [Yah];exact h9
 by_cases h10:op=[97,114,114,97,121]
 ·subst h10;rw [show refT [97,114,114,97,121]=2 from by decide];go_enter Tryz.func22,Tryz.ntmps22;go_wp2;go_ret;exact ⟨rfl,Yab _ _⟩
 have e10:(op == [97,114,114,97,121])=false:=by rw [Yah];exact h10
 by_cases h11:op=[105,115]
 ·subst h11;rw [show refT [105,115]=2 from by decide];go_enter Tryz.func22,Tryz.ntmps22;go_wp2;go_ret;exact ⟨rfl,Yab _ _⟩
 have e11:(op == [105,115])=false:=by rw [Yah];exact h11
 by_cases h12:op=[99,97,115,116]
 ·subst h12;rw [show refT [99,97,115,116]=2 from by decide];go_enter Tryz.func22,Tryz.ntmps22;go_wp2;go_ret;exact ⟨rfl,Yab _ _⟩
 have e12:(op == [99,97,115,116])=false:=by rw [Yah];exact h12
 have hr:thirteen.contains op=false:=by
  simp only [thirteen,List.contains_cons,List.contains_nil,e0,e1,e2,e3,e4,e5,e6,e7,e8,e9,e10,e11,e12,Bool.or_false]
 rw [Zns op hr];have HN:=Hd (ZgJ op w);by_cases hN:idx op<42
 ·rw [YaC hN] at HN ⊢;generalize idx op=q at HN;have hq:¬ ((q:Int)<0):=by omega
  clear hr hN h0 h1 h2 h3 h4 h5 h6 h7 h8 h9 h10 h11 h12;go_enter Tryz.func22,Tryz.ntmps22
  go_wp2_with (go_at_call 38;refine HN.o.mono ?_;rintro e w' ⟨rfl,hb⟩)
  go_ret;exact ⟨rfl,hb⟩
 ·rw [Yas hN] at HN ⊢;clear hr hN h0 h1 h2 h3 h4 h5 h6 h7 h8 h9 h10 h11 h12;go_enter Tryz.func22,Tryz.ntmps22
  go_wp2_with (go_at_call 38;refine HN.o.mono ?_;rintro e w' ⟨rfl,hb⟩)
  go_ret;exact ⟨rfl,hb⟩
theorem Zoj {l:List UInt8} {k:Nat} (hk:k<l.length) (h:k<=ZaP l) (hc:l.getD k 0=46):ZaP l=k:=by
 rcases YaB k (ZaP l) with h1|h1
 ·have:=List.not_of_lt_findIdx h1;simp [List.getD,List.getElem?_eq_getElem hk] at hc
  simp [hc] at this
 ·omega
theorem Zoi {l:List UInt8} {k:Nat} (hk:k<l.length) (h:k<=ZaP l) (hc:l.getD k 0 ≠ 46):k+1<=ZaP l:=by
 rcases YaB k (ZaP l) with h1|h1
 ·omega
 ·have e:ZaP l=k:=by omega
  exfalso
  have hlt:ZaP l<l.length:=by omega
  have:=YbU (xs:=l) (p:=fun c=>c == 46) (w:=hlt);apply hc
  simp only [beq_iff_eq] at this;rw [List.getD,Yaa hk,Option.getD_some];rw [←this]
  congr 1
  exact e.symm
def Zn0 (l:List UInt8) (w:World) (e:Ending) (w':World):Prop:=
 (∃ q,w'=w.drewN q)/\((ZaP l<l.length/\e=.returned (.tuple #[.string (S (l.take (ZaP l))),.string (S (l.drop (ZaP l+1))),.bool (ZaU l)]))\/
  (l.length<=ZaP l/\e=.returned (.tuple #[.string ⟨#[]⟩,.string ⟨#[]⟩,.bool false])))
theorem ZdJ (l:List UInt8) (w:World) (hlim:l.length<=9223372036854775807) :
  Calls Tryz.prog 259 #[.string (S l)] w (Zn0 l w):=by
 have hsz:((S l).size:Int)=(l.length:Int):=by rw [Zay]
 obtain ⟨n,hn⟩:∃ n,n=l.length:=⟨_,rfl⟩
 rw [←hn] at hsz;have HN:=Hd hn;have hn1:n<=9223372036854775807:=by omega
 have HC:Hid (∀ k w,Calls Tryz.prog 186 #[.string (S (l.take k))] w fun e w'=>e=.returned (.bool (Zal (l.take k)))/\w=w'):=fun k w=>Zch (l.take k) w (by rw [Yay];omega)
 have HMB:Hid (∀ k w,Calls Tryz.prog 187 #[.string (S (l.drop k))] w fun e w'=>e=.returned (.bool (ZaC (l.drop k)))/\w=w'):=fun k w=>Zdt (l.drop k) w (by rw [Ybn];omega)
 clear hn hlim;go_enter Tryz.func259,Tryz.ntmps259;go_wp2
 go_loop [5] (fun v5=>∃ k:Nat,k<=n/\v5=.int .i64 k/\k<=ZaP l) (fun v5=>n - (intOf v5).toNat)
 case atStart=>exact ⟨0,Yai _,rfl,Yai _⟩
 case round=>
  obtain ⟨k,hk,rfl,hdot⟩:=hrel;by_cases hlt:k<n
  ·have hkl:k<l.length:=by have:=HN.o;omega
   obtain ⟨x,hx⟩:∃ x,x=l.getD k 0:=⟨_,rfl⟩
   obtain ⟨c,hc⟩:∃ c,c=x.toNat:=⟨_,rfl⟩
   have hget:∀ h:k<(S l).size,((S l)[k]'h).toNat=c:=fun h=>by rw [hc,hx,S_at l k hkl h]
   by_cases hp:x=46
   ·have hd:ZaP l=k:=Zoj hkl hdot (by rw [←hx];exact hp);obtain rfl:c=46:=by rw [hc,hp];rfl
    have HD:=Hd hd;clear hd hx hc hp hdot;have hcut1:=ZfG l k;have hcut2:=ZeQ l (k+1);have w1:IntKind.i64.wrap ((k:Int)+1)=(k:Int)+1:=IntWalk.i64_in _ (by omega);have w2:((k:Int)+1).toNat=k+1:=by omega
    have w3:(0:Int)<=(k:Int)+1:=by omega
    have w4:(k:Int)+1<=(n:Int):=by omega
    have w5:(0:Int)<=(k:Int):=by omega
    have w6:(k:Int)<=(n:Int):=by omega
    have HK:=Hd hkl;clear hkl;have HPT:=Hd (show ZaU l=(Zal (l.take k) && ZaC (l.drop (k+1))) by unfold ZaU;rw [HD.o,Yat HK.o,Yax]);have hdl:ZaP l<l.length:=by rw [HD.o];exact HK.o
    have HCK:=HC.o k;have HMK:=Hd (HMB.o (k+1));cases hcl:Zal (l.take k) with
    | true=>
     rw [hcl] at HCK;rw [hcl,Yax] at HPT;have HCT:=Hd HCK;clear hcl HCK HC HMB;generalize ZaC (l.drop (k+1))=b at HMK HPT
     go_wp2_with fail
     go_quiet ((first|(go_at_call 186;exact Calls.quiet_of_same ((HCT.o _).mono (fun _ _ h=>⟨h.1,h.2.symm⟩)))|(go_at_call 187;exact Calls.quiet_of_same ((HMK.o _).mono (fun _ _ h=>⟨h.1,h.2.symm⟩)))))
     go_wp2
     go_ret3;exact ⟨⟨nq,rfl⟩,.inl ⟨hdl,by rw [HD.o,HPT.o];rfl⟩⟩
    | false=>
     rw [hcl] at HCK;rw [hcl,YaF] at HPT;have HCT:=Hd HCK;clear hcl HCK HC HMB
     go_wp2_with fail
     go_quiet ((first|(go_at_call 186;exact Calls.quiet_of_same ((HCT.o _).mono (fun _ _ h=>⟨h.1,h.2.symm⟩)))|(go_at_call 187;exact Calls.quiet_of_same ((HMK.o _).mono (fun _ _ h=>⟨h.1,h.2.symm⟩)))))
     go_wp2
     go_ret3;exact ⟨⟨nq,rfl⟩,.inl ⟨hdl,by rw [HD.o,HPT.o];rfl⟩⟩
   ·have hd:=Zoi hkl hdot (by rw [←hx];exact hp);have hcb:((c:Int) == 46)=false:=by
     rw [Yah];intro h;apply hp
     apply UInt8.toNat_inj.1
     rw [←hc];show c=46
     omega
    clear hx hc hp;go_wp2
    go_round
    case rel=>exact ⟨k+1,by omega,by go_num,hd⟩
    case measure=>simp [intOf];omega
  ·have hge:l.length<=ZaP l:=by have:=HN.o;omega
   go_wp2
   go_ret3;exact ⟨⟨0,rfl⟩,.inr ⟨hge,rfl⟩⟩
