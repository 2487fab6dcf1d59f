/- laws -/
import Derived.Test.YtggcdinoflchjaaGreatDoorK09
set_option maxRecDepth 100000
set_option maxHeartbeats 16000000
namespace Go.Proofs.YtggcdinoflchjaaGreatDoor
open Go.RowKit Go.Lib
theorem Zii (l:List UInt8):ZjT (S l)=ZeT l:=by unfold ZjT ZeT;rw [Zay,Zn1,Zn1,Zn1,Zn1]
theorem ZnW (s:List UInt8) (w:World) (hs:s.length<=4611686018427387904) :
  Calls Tryz.prog 258 #[.string (S s)] w fun e w'=>e=.returned (.bool (validD s))/\∃ q,w'=w.drewN q:=by
 obtain ⟨R,hR⟩:∃ R,R=validD s:=⟨_,rfl⟩
 rw [←hR];have HR:=Hd hR;clear hR;go_enter Tryz.func258,Tryz.ntmps258;go_wp2
 go_loopg [0] (s.length+1) (fun gk v0 wr=>(∃ q,wr=w.drewN q)/\∃ t:List UInt8,v0=.string (S t)/\validD t=R/\t.length<gk/\t.length<=4611686018427387904)
 case atStart=>exact ⟨⟨0,rfl⟩,s,rfl,HR.o.symm,by omega,hs⟩
 case round=>
  obtain ⟨⟨q,rfl⟩,t,rfl,hv,hg,hts⟩:=hrel;have HV:=Hd hv;clear hv;cases t with
  | nil=>
   have hR:R=true:=by rw [←HV.o];rfl
   subst hR;rw [show S []=⟨#[]⟩ from rfl];go_wp2;go_ret;exact ⟨rfl,_,rfl⟩
  | cons b t=>
   rw [YaI] at hg hts;obtain ⟨u,hu⟩:∃ u,u=S (b :: t):=⟨_,rfl⟩
   have hus:u.size=t.length+1:=by rw [hu,Zay];rfl
   have HCH:=Hd (Zoa u (w.drewN q) (by omega));have hl:t.length+1<=4611686018427387904:=hts;have hK:=Zn9 (b :: t) (by simp);rw [←Zii,←hu] at hK;obtain ⟨K,hKK⟩:∃ K,K=ZjT u:=⟨_,rfl⟩
   rw [←hKK] at HCH hK;rw [←hu];have h1:(0:Int)<(u.size:Int):=by omega
   have h2:(K:Int)<=(u.size:Int):=by rw [hus];simp at hK;omega
   have hsz:(u.size:Int)<=4611686018427387904:=by omega
   have hne:(!u.toList.isEmpty)=true:=by rw [hu,Zae];rfl
   have HU:=Hd hu;have HUS:=Hd hus;have HKK:=Hd hKK;clear hu hus hKK
   go_wp2_with (go_at_call 267;refine HCH.o.mono ?_;rintro e w1 ⟨rfl,q1,rfl⟩)
   ·go_ret;have hk0:((K:Int) == 0)=true:=by assumption
    rw [beq_iff_eq] at hk0;have hb:validD (b :: t)=false:=by
     rw [Zf6 _ (by simp),←Zii,←HU.o,←HKK.o,YaC (by omega)]
    exact ⟨by rw [←HV.o,hb];rfl,_,rfl⟩
   ·have hk0:((K:Int) == 0)=false:=by assumption
    rw [Yah] at hk0;have hb:validD (b :: t)=validD ((b :: t).drop K):=by
     rw [Zf6 _ (by simp),←Zii,←HU.o,←HKK.o,Yas (by omega)]
    obtain ⟨g',rfl⟩:∃ g',gk=g'+1:=⟨gk - 1,by omega⟩
    go_roundg g'
    case measure=>omega
    case rel=>exact ⟨⟨_,rfl⟩,(b :: t).drop K,by rw [HU.o,ZeQ],by rw [←hb];exact HV.o,by rw [Ybn,YaI];omega,by rw [Ybn,YaI];omega⟩
end Go.Proofs.YtggcdinoflchjaaGreatDoor
namespace Go.Proofs.YtggcdinoflchjaaGreatDoor
open Go.RowKit
def Ins.ok (x:Ins):Prop:=(-9223372036854775808<=x.n/\x.n<=9223372036854775807)/\x.s.length<=1048576
def Zeg (c:UInt8):Prop:=c.toNat<128/\c.toNat ≠ 10/\c.toNat ≠ 32
theorem Zky {i:Nat} {c:UInt8} (h:okAt i c=true):Zeg c:=by
 unfold okAt Zb6 Zdv at h;simp at h
 unfold Zeg;omega
theorem Zct {l:List UInt8} (h:ZbJ l=true):(∀ c ∈ l,Zeg c)/\l.length<=32:=by
 refine ⟨fun c hc=>?_,(Zby h).2⟩;obtain ⟨i,hi,rfl⟩:=List.getElem_of_mem hc;have h1:=Zgz h i hi;rw [List.getD,Yaa hi,Option.getD_some] at h1;exact Zky h1
theorem Zfv:∀ (n:Nat) (l:List UInt8),l.length<=n->Zaj l=true->∀ c ∈ l,Zeg c:=by
 intro n;induction n with
 | zero=>
  intro l hl _ c hc;rw [YaY.1 (by omega:l.length=0)] at hc;simp at hc
 | succ n ih=>
  intro l hl hr c hc;cases hE:Zbk l with
  | false=>
   have hd:=ZcC hE;have hb:Zbe l=l:=by unfold Zbe;rw [hd];simp
   have:=Zew hr;rw [hb] at this;exact (Zct this).1 c hc
  | true=>
   have hof:=Zl5 hE;have h2:=Zda hE;rw [←hof] at hr hc;rw [ZhL,Yar] at hr;unfold ofL at hc;rw [Yao] at hc;rcases hc with hc|hc
   ·exact ih _ (by rw [Yay];omega) hr.1 c hc
   ·simp at hc
    rcases hc with rfl|rfl <;> (unfold Zeg;decide)
theorem Zdi {l:List UInt8} (h:Zaj l=true):l.length<=38:=by
 have h1:=(Zct (Zew h)).2;rw [ZcQ] at h1;have h2:ZaO l<=3:=by
  unfold Zaj at h;simp at h
  exact h.1
 omega
theorem ZiP {l:List UInt8} (h:ZaU l=true):(∀ c ∈ l,Zeg c)/\l.length<=65:=by
 unfold ZaU ZaC at h;simp only [Yar,YaO] at h;obtain ⟨h0,h1,h2,_⟩:=h;have p1:=Zct (Zbg h1);have p2:=Zct h2;have hs:l=l.take (ZaP l)++(l[ZaP l] :: l.drop (ZaP l+1)):=by
  rw [←YbK h0,Ya1]
 have hdot:l[ZaP l]=46:=by
  have:=YbU (p:=fun c:UInt8=>c == 46) (xs:=l) (w:=h0);exact beq_iff_eq.1 this
 refine ⟨fun c hc=>?_,?_⟩
 ·rw [hs,Yao,Yav] at hc;rcases hc with hc|rfl|hc
  ·exact p1.1 c hc
  ·rw [hdot];unfold Zeg;decide
  ·exact p2.1 c hc
 ·have q1:=p1.2;have q2:=p2.2;rw [Yay] at q1;rw [Ybn] at q2;omega
theorem ZcM {l:List UInt8} (h:∀ c ∈ l,Zeg c):Lib.validD l=true:=by
 rw [Lib.validD_ascii l.length l (fun c hc=>(h c (Ybh hc)).1),List.drop_length];exact Lib.validD_nil
theorem Zif {h:Nat} {s:List UInt8} (ha:ZaW h s=true):Lib.validD s=true/\s.length<=4096/\s.contains 10=false:=by
 have nolf:(∀ c ∈ s,Zeg c)->s.contains 10=false:=fun hp=>by
  rw [Yb1];intro hc;rw [YbQ] at hc;exact (hp 10 hc).2.1 rfl
 unfold ZaW at ha;by_cases e2:h=2
 ·rw [YaC e2] at ha;simp only [Yar,YaO,Ybg] at ha;exact ⟨ha.1.2,by omega,ha.2⟩
 rw [Yas e2] at ha;by_cases e3:h=3
 ·rw [YaC e3] at ha;have p:=Zct (Zbg ha);exact ⟨ZcM p.1,by omega,nolf p.1⟩
 rw [Yas e3] at ha;by_cases e4:h=4
 ·rw [YaC e4,YaX,YaO] at ha;rcases ha with ha|ha
  ·have p:=Zct (Zbg ha);exact ⟨ZcM p.1,by omega,nolf p.1⟩
  ·have hr:Zaj s=true:=by
    cases hq:Zaj s with
    | true=>rfl
    | false=>rw [Zdm hq] at ha;omega
   have p:=Zfv _ s (Yac _) hr;have q:=Zdi hr;exact ⟨ZcM p,by omega,nolf p⟩
 rw [Yas e4] at ha;by_cases e5:h=5
 ·rw [YaC e5,Yar] at ha;have p:=Zfv _ s (Yac _) ha.1;have q:=Zdi ha.1;exact ⟨ZcM p,by omega,nolf p⟩
 rw [Yas e5] at ha;by_cases e6:h=6
 ·rw [YaC e6] at ha;have p:=ZiP ha;exact ⟨ZcM p.1,by omega,nolf p.1⟩
 rw [Yas e6] at ha;have:s=[]:=by simpa using ha
 rw [this];exact ⟨rfl,by simp,rfl⟩
theorem Zgu {x:Ins} (h:x.e=0):idx x.op<42/\ZaK (idx x.op)=x.op/\(Zbm (idx x.op) ≠ 1->x.n=0)/\ZaW (Zbm (idx x.op)) x.s=true:=by
 unfold Ins.e Za1 at h;by_cases hN:idx x.op<42
 ·rw [YaC hN] at h;refine ⟨hN,beq_iff_eq.1 (Zho x.op hN),fun h1=>?_,?_⟩
  ·by_cases hn:x.n=0
   ·exact hn
   ·rw [YaC ⟨h1,hn⟩] at h;cases h
  ·split at h
   ·cases h
   ·split at h
    ·assumption
    ·cases h
 ·rw [Yas hN] at h;cases h
def i64 (n:Int):Prop:=-9223372036854775808<=n/\n<=9223372036854775807
def Cat.held (c:Cat):Prop:=i64 c.fr/\i64 c.till/\i64 c.at_
def Mth.held (m:Mth):Prop:=i64 m.loc/\(∀ x ∈ m.code,i64 x.n)/\(∀ x ∈ m.cats,x.held)
def Cls.held (c:Cls):Prop:=∀ m ∈ c.mths,m.held
theorem Zgy {l:List UInt8} (h:memB l=true):l.length<=32:=by
 unfold memB at h;rw [Yar] at h;exact (Zby h.1).2
theorem Zc7 {l:List UInt8} (h:Zal l=true):l.length<=32:=(Zby (Zbg h)).2
theorem ZpN {x:Ins} (h:x.fine=true) (hn:i64 x.n):x.e=0/\x.ok:=by
 have h0:x.e=0:=by unfold Ins.fine at h;simpa using h
 have h1:=(Zif (Zgu h0).2.2.2).2.1;exact ⟨h0,hn,by omega⟩
structure Mth.Good (m:Mth):Prop where
 ok:m.ok=true
 few:m.many=false
 held:m.held
theorem Mth.Good.name {m:Mth} (h:m.Good):memB m.name=true:=by have:=h.ok;unfold Mth.ok at this;simp only [Yar] at this;exact this.1
theorem Mth.Good.params {m:Mth} (h:m.Good):∀ x ∈ m.params,Zaj x=true:=by have:=h.ok;unfold Mth.ok at this;simp only [Yar,YaE] at this;exact this.2.1
theorem Mth.Good.res {m:Mth} (h:m.Good):m.res=[]\/Zaj m.res=true:=by have:=h.ok;unfold Mth.ok at this;simp only [Yar,YaX,YaO] at this;exact this.2.2.1
theorem Mth.Good.body {m:Mth} (h:m.Good):m.body=true:=by have:=h.ok;unfold Mth.ok at this;simp only [Yar] at this;exact this.2.2.2
theorem Mth.Good.nums {m:Mth} (h:m.Good):m.params.length<=32/\m.cats.length<=32/\m.code.length<=200/\m.loc<=64:=by
 have:=h.few;unfold Mth.many at this;simp only [Ybs,decide_eq_false_iff_not] at this;omega
theorem Mth.Good.real {m:Mth} (h:m.Good) (ha:m.abs=false):0<m.code.length/\(∀ x ∈ m.code,x.fine=true)/\(∀ x ∈ m.cats,Cat.ok m.code.length x=true)/\(m.params.length:Int)<m.loc:=by
 have:=h.body;unfold Mth.body at this;rw [ha] at this;simp only [YbZ,if_false,Yar,YaE,YaO] at this;exact ⟨this.2.1,this.2.2.1,this.2.2.2,this.1⟩
theorem Zn8 {n:Nat} {c:Cat} (h:Cat.ok n c=true) (hn:n<=200):(0<=c.fr/\c.fr<=200)/\(0<=c.till/\c.till<=200)/\(0<=c.at_/\c.at_<=200)/\Zal c.cls=true:=by
 unfold Cat.ok at h;simp only [Yar,YaO] at h;refine ⟨by omega,by omega,by omega,h.2.2.2.2.2⟩
theorem Mth.Good.res_len {m:Mth} (h:m.Good):m.res.length<=38:=by
 rcases h.res with e|e
 ·rw [e];simp
 ·exact Zdi e
structure Cls.Good (c:Cls):Prop where
 e:c.e=0
 held:c.held
theorem Cls.Good.parts {c:Cls} (h:c.Good):c.many=false/\c.fine=true:=by
 have:=h.e;unfold Cls.e at this;cases hm:c.many
 ·cases hf:c.fine
  ·rw [hm,hf] at this;simp at this
  ·exact ⟨rfl,rfl⟩
 ·rw [hm] at this;simp at this
theorem Cls.Good.nums {c:Cls} (h:c.Good):c.like.length<=32/\c.flds.length<=32/\c.mths.length<=32:=by
 have:=h.parts.1;unfold Cls.many at this;simp only [Ybs,decide_eq_false_iff_not] at this;omega
theorem Cls.Good.name {c:Cls} (h:c.Good):Zal c.name=true:=by
 have:=h.parts.2;unfold Cls.fine Cls.names at this;simp only [Yar] at this;exact this.1.1
theorem Cls.Good.above {c:Cls} (h:c.Good):Zal c.sup=true/\∀ x ∈ c.like,Zal x=true:=by
 have:=h.parts.2;unfold Cls.fine Cls.names at this;simp only [Yar,Ycd,YaE] at this;exact this.1.2.1
theorem Cls.Good.flds {c:Cls} (h:c.Good):∀ x ∈ c.flds,x.ok=true:=by
 have:=h.parts.2;unfold Cls.fine at this;simp only [Yar,YaE] at this;exact this.2.2.1
theorem Cls.Good.mths {c:Cls} (h:c.Good):∀ x ∈ c.mths,x.Good:=by
 have h1:=h.parts.2;have h2:=h.parts.1;unfold Cls.fine at h1;unfold Cls.many at h2;simp only [Yar,YaE] at h1;simp only [Ybs,YaT] at h2;intro x hx;refine ⟨h1.2.2.2 x hx,?_,h.held x hx⟩;have:=h2.2.2.2 x hx
 simpa using this
