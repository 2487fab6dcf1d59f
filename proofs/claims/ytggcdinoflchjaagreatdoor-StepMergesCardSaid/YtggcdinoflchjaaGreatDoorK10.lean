/- laws -/
import Derived.Test.YtggcdinoflchjaaGreatDoorK09
set_option maxRecDepth 100000
set_option maxHeartbeats 16000000
namespace Go.Proofs.YtggcdinoflchjaaGreatDoor
open Go.RowKit Go.Lib
theorem ZiK (l:List UInt8):Zkl (S l)=Zfi l:=by unfold Zkl Zfi;rw [ZaB,Zoz,Zoz,Zoz,Zoz]
theorem Zou (s:List UInt8) (w:World) (hs:s.length<=4611686018427387904) :
  Calls Tryz.prog 258 #[.string (S s)] w fun e w'=>e=.returned (.bool (validD s))/\∃ q,w'=w.drewN q:=by
 obtain ⟨R,hR⟩:∃ R,R=validD s:=⟨_,rfl⟩
 rw [←hR];have HR:=Hd hR;clear hR;go_enter Tryz.func258,Tryz.ntmps258;go_wp2
 go_loopg [0] (s.length+1) (fun gk v0 wr=>(∃ q,wr=w.drewN q)/\∃ t:List UInt8,v0=.string (S t)/\validD t=R/\t.length<gk/\t.length<=4611686018427387904)
 case atStart=>exact ⟨⟨0,rfl⟩,s,rfl,HR.o.symm,by omega,hs⟩
 case round=>
  obtain ⟨⟨q,rfl⟩,t,rfl,hv,hg,hts⟩:=hrel;have HV:=Hd hv;clear hv;cases t with
  | nil=>
   have hR:R=true:=by rw [←HV.o];rfl
   subst hR;rw [show S []=⟨#[]⟩ from rfl];go_wp2;go_ret;exact ⟨rfl,_,rfl⟩
  | cons b t=>
   rw [YaJ] at hg hts;obtain ⟨u,hu⟩:∃ u,u=S (b :: t):=⟨_,rfl⟩
   have hus:u.size=t.length+1:=by rw [hu,ZaB];rfl
   have HCH:=Hd (ZoI u (w.drewN q) (by omega));have hl:t.length+1<=4611686018427387904:=hts;have hK:=ZoH (b :: t) (by simp);rw [←ZiK,←hu] at hK;obtain ⟨K,hKK⟩:∃ K,K=Zkl u:=⟨_,rfl⟩
   rw [←hKK] at HCH hK;rw [←hu];have h1:(0:Int)<(u.size:Int):=by omega
   have h2:(K:Int)<=(u.size:Int):=by rw [hus];simp at hK;omega
   have hsz:(u.size:Int)<=4611686018427387904:=by omega
   have hne:(!u.toList.isEmpty)=true:=by rw [hu,Zae];rfl
   have HU:=Hd hu;have HUS:=Hd hus;have HKK:=Hd hKK;clear hu hus hKK
   go_wp2_with (go_at_call 267;refine HCH.o.mono ?_;rintro e w1 ⟨rfl,q1,rfl⟩)
   ·go_ret;have hk0:((K:Int) == 0)=true:=by assumption
    rw [beq_iff_eq] at hk0;have hb:validD (b :: t)=false:=by
     rw [Zgz _ (by simp),←ZiK,←HU.o,←HKK.o,YaA (by omega)]
    exact ⟨by rw [←HV.o,hb];rfl,_,rfl⟩
   ·have hk0:((K:Int) == 0)=false:=by assumption
    rw [Yah] at hk0;have hb:validD (b :: t)=validD ((b :: t).drop K):=by
     rw [Zgz _ (by simp),←ZiK,←HU.o,←HKK.o,Yaq (by omega)]
    obtain ⟨g',rfl⟩:∃ g',gk=g'+1:=⟨gk - 1,by omega⟩
    go_roundg g'
    case measure=>omega
    case rel=>exact ⟨⟨_,rfl⟩,(b :: t).drop K,by rw [HU.o,Zff],by rw [←hb];exact HV.o,by rw [YbA,YaJ];omega,by rw [YbA,YaJ];omega⟩
end Go.Proofs.YtggcdinoflchjaaGreatDoor
namespace Go.Proofs.YtggcdinoflchjaaGreatDoor
open Go.RowKit
def Ins.ok (x:Ins):Prop:=(-9223372036854775808<=x.n/\x.n<=9223372036854775807)/\x.s.length<=1048576
def Zey (c:UInt8):Prop:=c.toNat<128/\c.toNat ≠ 10/\c.toNat ≠ 32
theorem ZkZ {i:Nat} {c:UInt8} (h:okAt i c=true):Zey c:=by
 unfold okAt Zcl ZdJ at h;simp at h
 unfold Zey;omega
theorem ZcG {l:List UInt8} (h:ZbN l=true):(∀ c ∈ l,Zey c)/\l.length<=32:=by
 refine ⟨fun c hc=>?_,(ZbH h).2⟩;obtain ⟨i,hi,rfl⟩:=List.getElem_of_mem hc;have h1:=Zg4 h i hi;rw [List.getD,Yaa hi,Option.getD_some] at h1;exact ZkZ h1
theorem ZfY:∀ (n:Nat) (l:List UInt8),l.length<=n->Zaj l=true->∀ c ∈ l,Zey c:=by
 intro n;induction n with
 | zero=>
  intro l hl _ c hc;rw [YaZ.1 (by omega:l.length=0)] at hc;simp at hc
 | succ n ih=>
  intro l hl hr c hc;cases hE:Zbt l with
  | false=>
   have hd:=ZcQ hE;have hb:Zbo l=l:=by unfold Zbo;rw [hd];simp
   have:=ZeR hr;rw [hb] at this;exact (ZcG this).1 c hc
  | true=>
   have hof:=ZmC hE;have h2:=Zdl hE;rw [←hof] at hr hc;rw [Zid,Yat] at hr;unfold ofL at hc;rw [Yap] at hc;rcases hc with hc|hc
   ·exact ih _ (by rw [Yaz];omega) hr.1 c hc
   ·simp at hc
    rcases hc with rfl|rfl <;> (unfold Zey;decide)
theorem Zdt {l:List UInt8} (h:Zaj l=true):l.length<=38:=by
 have h1:=(ZcG (ZeR h)).2;rw [Zc3] at h1;have h2:ZaV l<=3:=by
  unfold Zaj at h;simp at h
  exact h.1
 omega
theorem Zjj {l:List UInt8} (h:Za3 l=true):(∀ c ∈ l,Zey c)/\l.length<=65:=by
 unfold Za3 ZaF at h;simp only [Yat,YaO] at h;obtain ⟨h0,h1,h2,_⟩:=h;have p1:=ZcG (Zbf h1);have p2:=ZcG h2;have hs:l=l.take (ZaW l)++(l[ZaW l] :: l.drop (ZaW l+1)):=by
  rw [←YbJ h0,Ya2]
 have hdot:l[ZaW l]=46:=by
  have:=Yb1 (p:=fun c:UInt8=>c == 46) (xs:=l) (w:=h0);exact beq_iff_eq.1 this
 refine ⟨fun c hc=>?_,?_⟩
 ·rw [hs,Yap,Yau] at hc;rcases hc with hc|rfl|hc
  ·exact p1.1 c hc
  ·rw [hdot];unfold Zey;decide
  ·exact p2.1 c hc
 ·have q1:=p1.2;have q2:=p2.2;rw [Yaz] at q1;rw [YbA] at q2;omega
theorem Zc0 {l:List UInt8} (h:∀ c ∈ l,Zey c):Lib.validD l=true:=by
 rw [Lib.validD_ascii l.length l (fun c hc=>(h c (Ybh hc)).1),List.drop_length];exact Lib.validD_nil
theorem ZiH {h:Nat} {s:List UInt8} (ha:Za5 h s=true):Lib.validD s=true/\s.length<=4096/\s.contains 10=false:=by
 have nolf:(∀ c ∈ s,Zey c)->s.contains 10=false:=fun hp=>by
  rw [Yb7];intro hc;rw [YbT] at hc;exact (hp 10 hc).2.1 rfl
 unfold Za5 at ha;by_cases e2:h=2
 ·rw [YaA e2] at ha;simp only [Yat,YaO,Ya7] at ha;exact ⟨ha.1.2,by omega,ha.2⟩
 rw [Yaq e2] at ha;by_cases e3:h=3
 ·rw [YaA e3] at ha;have p:=ZcG (Zbf ha);exact ⟨Zc0 p.1,by omega,nolf p.1⟩
 rw [Yaq e3] at ha;by_cases e4:h=4
 ·rw [YaA e4,YaS,YaO] at ha;rcases ha with ha|ha
  ·have p:=ZcG (Zbf ha);exact ⟨Zc0 p.1,by omega,nolf p.1⟩
  ·have hr:Zaj s=true:=by
    cases hq:Zaj s with
    | true=>rfl
    | false=>rw [Zcz hq] at ha;omega
   have p:=ZfY _ s (Yac _) hr;have q:=Zdt hr;exact ⟨Zc0 p,by omega,nolf p⟩
 rw [Yaq e4] at ha;by_cases e5:h=5
 ·rw [YaA e5,Yat] at ha;have p:=ZfY _ s (Yac _) ha.1;have q:=Zdt ha.1;exact ⟨Zc0 p,by omega,nolf p⟩
 rw [Yaq e5] at ha;by_cases e6:h=6
 ·rw [YaA e6] at ha;have p:=Zjj ha;exact ⟨Zc0 p.1,by omega,nolf p.1⟩
 rw [Yaq e6] at ha;have:s=[]:=by simpa using ha
 rw [this];exact ⟨rfl,by simp,rfl⟩
theorem ZgY {x:Ins} (h:x.e=0):idx x.op<42/\ZaM (idx x.op)=x.op/\(Zbv (idx x.op) ≠ 1->x.n=0)/\Za5 (Zbv (idx x.op)) x.s=true:=by
 unfold Ins.e Zbb at h;by_cases hN:idx x.op<42
 ·rw [YaA hN] at h;refine ⟨hN,beq_iff_eq.1 (ZhR x.op hN),fun h1=>?_,?_⟩
  ·by_cases hn:x.n=0
   ·exact hn
   ·rw [YaA ⟨h1,hn⟩] at h;cases h
  ·split at h
   ·cases h
   ·split at h
    ·assumption
    ·cases h
 ·rw [Yaq hN] at h;cases h
def i64 (n:Int):Prop:=-9223372036854775808<=n/\n<=9223372036854775807
def Cat.held (c:Cat):Prop:=i64 c.fr/\i64 c.till/\i64 c.at_
def Mth.held (m:Mth):Prop:=i64 m.loc/\(∀ x ∈ m.code,i64 x.n)/\(∀ x ∈ m.cats,x.held)
def Cls.held (c:Cls):Prop:=∀ m ∈ c.mths,m.held
theorem Zg3 {l:List UInt8} (h:memB l=true):l.length<=32:=by
 unfold memB at h;rw [Yat] at h;exact (ZbH h.1).2
theorem Zdi {l:List UInt8} (h:Zak l=true):l.length<=32:=(ZbH (Zbf h)).2
theorem Zqj {x:Ins} (h:x.fine=true) (hn:i64 x.n):x.e=0/\x.ok:=by
 have h0:x.e=0:=by unfold Ins.fine at h;simpa using h
 have h1:=(ZiH (ZgY h0).2.2.2).2.1;exact ⟨h0,hn,by omega⟩
structure Mth.Good (m:Mth):Prop where
 ok:m.ok=true
 few:m.many=false
 held:m.held
theorem Mth.Good.name {m:Mth} (h:m.Good):memB m.name=true:=by have:=h.ok;unfold Mth.ok at this;simp only [Yat] at this;exact this.1
theorem Mth.Good.params {m:Mth} (h:m.Good):∀ x ∈ m.params,Zaj x=true:=by have:=h.ok;unfold Mth.ok at this;simp only [Yat,YaH] at this;exact this.2.1
theorem Mth.Good.res {m:Mth} (h:m.Good):m.res=[]\/Zaj m.res=true:=by have:=h.ok;unfold Mth.ok at this;simp only [Yat,YaS,YaO] at this;exact this.2.2.1
theorem Mth.Good.body {m:Mth} (h:m.Good):m.body=true:=by have:=h.ok;unfold Mth.ok at this;simp only [Yat] at this;exact this.2.2.2
theorem Mth.Good.nums {m:Mth} (h:m.Good):m.params.length<=32/\m.cats.length<=32/\m.code.length<=200/\m.loc<=64:=by
 have:=h.few;unfold Mth.many at this;simp only [Ybk,decide_eq_false_iff_not] at this;omega
theorem Mth.Good.real {m:Mth} (h:m.Good) (ha:m.abs=false):0<m.code.length/\(∀ x ∈ m.code,x.fine=true)/\(∀ x ∈ m.cats,Cat.ok m.code.length x=true)/\(m.params.length:Int)<m.loc:=by
 have:=h.body;unfold Mth.body at this;rw [ha] at this;simp only [YbR,if_false,Yat,YaH,YaO] at this;exact ⟨this.2.1,this.2.2.1,this.2.2.2,this.1⟩
theorem ZoG {n:Nat} {c:Cat} (h:Cat.ok n c=true) (hn:n<=200):(0<=c.fr/\c.fr<=200)/\(0<=c.till/\c.till<=200)/\(0<=c.at_/\c.at_<=200)/\Zak c.cls=true:=by
 unfold Cat.ok at h;simp only [Yat,YaO] at h;refine ⟨by omega,by omega,by omega,h.2.2.2.2.2⟩
theorem Mth.Good.res_len {m:Mth} (h:m.Good):m.res.length<=38:=by
 rcases h.res with e|e
 ·rw [e];simp
 ·exact Zdt e
structure Cls.Good (c:Cls):Prop where
 e:c.e=0
 held:c.held
theorem Cls.Good.parts {c:Cls} (h:c.Good):c.many=false/\c.fine=true:=by
 have:=h.e;unfold Cls.e at this;cases hm:c.many
 ·cases hf:c.fine
  ·rw [hm,hf] at this;simp at this
  ·exact ⟨rfl,rfl⟩
 ·rw [hm] at this;simp at this
theorem Cls.Good.nums {c:Cls} (h:c.Good):c.like.length<=32/\c.flds.length<=32/\c.mths.length<=32:=by
 have:=h.parts.1;unfold Cls.many at this;simp only [Ybk,decide_eq_false_iff_not] at this;omega
theorem Cls.Good.name {c:Cls} (h:c.Good):Zak c.name=true:=by
 have:=h.parts.2;unfold Cls.fine Cls.names at this;simp only [Yat] at this;exact this.1.1
theorem Cls.Good.above {c:Cls} (h:c.Good):Zak c.sup=true/\∀ x ∈ c.like,Zak x=true:=by
 have:=h.parts.2;unfold Cls.fine Cls.names at this;simp only [Yat,YbY,YaH] at this;exact this.1.2.1
theorem Cls.Good.flds {c:Cls} (h:c.Good):∀ x ∈ c.flds,x.ok=true:=by
 have:=h.parts.2;unfold Cls.fine at this;simp only [Yat,YaH] at this;exact this.2.2.1
theorem Cls.Good.mths {c:Cls} (h:c.Good):∀ x ∈ c.mths,x.Good:=by
 have h1:=h.parts.2;have h2:=h.parts.1;unfold Cls.fine at h1;unfold Cls.many at h2;simp only [Yat,YaH] at h1;simp only [Ybk,YaU] at h2;intro x hx;refine ⟨h1.2.2.2 x hx,?_,h.held x hx⟩;have:=h2.2.2.2 x hx
 simpa using this
