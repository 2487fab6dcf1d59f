/- laws -/
import Derived.Test.YtggcdinoflchjaaGreatDoorK09
set_option maxRecDepth 100000
set_option maxHeartbeats 16000000
namespace Go.Proofs.YtggcdinoflchjaaGreatDoor
open Go.RowKit Go.Lib
theorem Zih (l:List UInt8):ZjR (S l)=ZeP l:=by unfold ZjR ZeP;rw [Zaz,ZnZ,ZnZ,ZnZ,ZnZ]
theorem ZnV (s:List UInt8) (w:World) (hs:s.length<=4611686018427387904) :
  Calls Tryz.prog 258 #[.string (S s)] w fun e w'=>e=.returned (.bool (validD s))/\∃ q,w'=w.drewN q:=by
 obtain ⟨R,hR⟩:∃ R,R=validD s:=⟨_,rfl⟩
 rw [←hR];have HR:=Hd hR;clear hR;go_enter Tryz.func258,Tryz.ntmps258;go_wp2
 go_loopg [0] (s.length+1) (fun gk v0 wr=>(∃ q,wr=w.drewN q)/\∃ t:List UInt8,v0=.string (S t)/\validD t=R/\t.length<gk/\t.length<=4611686018427387904)
 case atStart=>exact ⟨⟨0,rfl⟩,s,rfl,HR.out.symm,by omega,hs⟩
 case round=>
  obtain ⟨⟨q,rfl⟩,t,rfl,hv,hg,hts⟩:=hrel;have HV:=Hd hv;clear hv;cases t with
  | nil=>
   have hR:R=true:=by rw [←HV.out];rfl
   subst hR;rw [show S []=⟨#[]⟩ from rfl];go_wp2;go_ret;exact ⟨rfl,_,rfl⟩
  | cons b t=>
   rw [List.length_cons] at hg hts;obtain ⟨u,hu⟩:∃ u,u=S (b :: t):=⟨_,rfl⟩
   have hus:u.size=t.length+1:=by rw [hu,Zaz];rfl
   have HCH:=Hd (Zn8 u (w.drewN q) (by omega));have hl:t.length+1<=4611686018427387904:=hts;have hK:=Zn7 (b :: t) (by simp);rw [←Zih,←hu] at hK;obtain ⟨K,hKK⟩:∃ K,K=ZjR u:=⟨_,rfl⟩
   rw [←hKK] at HCH hK;rw [←hu];have h1:(0:Int)<(u.size:Int):=by omega
   have h2:(K:Int)<=(u.size:Int):=by rw [hus];simp at hK;omega
   have hsz:(u.size:Int)<=4611686018427387904:=by omega
   have hne:(!u.toList.isEmpty)=true:=by rw [hu,Zae];rfl
   have HU:=Hd hu;have HUS:=Hd hus;have HKK:=Hd hKK;clear hu hus hKK
   go_wp2_with (go_at_call 267;refine HCH.out.mono ?_;rintro e w1 ⟨rfl,q1,rfl⟩)
   ·go_ret;have hk0:((K:Int) == 0)=true:=by assumption
    rw [beq_iff_eq] at hk0;have hb:validD (b :: t)=false:=by
     rw [Zf3 _ (by simp),←Zih,←HU.out,←HKK.out,if_pos (by omega)]
    exact ⟨by rw [←HV.out,hb];rfl,_,rfl⟩
   ·have hk0:((K:Int) == 0)=false:=by assumption
    rw [beq_eq_false_iff_ne] at hk0;have hb:validD (b :: t)=validD ((b :: t).drop K):=by
     rw [Zf3 _ (by simp),←Zih,←HU.out,←HKK.out,if_neg (by omega)]
    obtain ⟨g',rfl⟩:∃ g',gk=g'+1:=⟨gk - 1,by omega⟩
    go_roundg g'
    case measure=>omega
    case rel=>exact ⟨⟨_,rfl⟩,(b :: t).drop K,by rw [HU.out,ZeM],by rw [←hb];exact HV.out,by rw [List.length_drop,List.length_cons];omega,by rw [List.length_drop,List.length_cons];omega⟩
end Go.Proofs.YtggcdinoflchjaaGreatDoor
namespace Go.Proofs.YtggcdinoflchjaaGreatDoor
open Go.RowKit
def Ins.ok (x:Ins):Prop:=(-9223372036854775808<=x.n/\x.n<=9223372036854775807)/\x.s.length<=1048576
def Zee (c:UInt8):Prop:=c.toNat<128/\c.toNat ≠ 10/\c.toNat ≠ 32
theorem Zkv {i:Nat} {c:UInt8} (h:okAt i c=true):Zee c:=by
 unfold okAt Zb6 Zdr at h;simp at h
 unfold Zee;omega
theorem Zcq {l:List UInt8} (h:ZbH l=true):(∀ c ∈ l,Zee c)/\l.length<=32:=by
 refine ⟨fun c hc=>?_,(Zbt h).2⟩;obtain ⟨i,hi,rfl⟩:=List.getElem_of_mem hc;have h1:=Zgw h i hi;rw [List.getD,List.getElem?_eq_getElem hi,Option.getD_some] at h1;exact Zkv h1
theorem Zft:∀ (n:Nat) (l:List UInt8),l.length<=n->Zak l=true->∀ c ∈ l,Zee c:=by
 intro n;induction n with
 | zero=>
  intro l hl _ c hc;rw [List.length_eq_zero_iff.1 (by omega:l.length=0)] at hc;simp at hc
 | succ n ih=>
  intro l hl hr c hc;cases hE:Zbh l with
  | false=>
   have hd:=Zcz hE;have hb:Zbc l=l:=by unfold Zbc;rw [hd];simp
   have:=Zet hr;rw [hb] at this;exact (Zcq this).1 c hc
  | true=>
   have hof:=Zl4 hE;have h2:=Zc5 hE;rw [←hof] at hr hc;rw [ZhK,Bool.and_eq_true] at hr;unfold ofL at hc;rw [List.mem_append] at hc;rcases hc with hc|hc
   ·exact ih _ (by rw [List.length_take];omega) hr.1 c hc
   ·simp at hc
    rcases hc with rfl|rfl <;> (unfold Zee;decide)
theorem Zdd {l:List UInt8} (h:Zak l=true):l.length<=38:=by
 have h1:=(Zcq (Zet h)).2;rw [ZcN] at h1;have h2:ZaO l<=3:=by
  unfold Zak at h;simp at h
  exact h.1
 omega
theorem ZiP {l:List UInt8} (h:ZaU l=true):(∀ c ∈ l,Zee c)/\l.length<=65:=by
 unfold ZaU ZaB at h;simp only [Bool.and_eq_true,decide_eq_true_eq] at h;obtain ⟨h0,h1,h2,_⟩:=h;have p1:=Zcq (Zbe h1);have p2:=Zcq h2;have hs:l=l.take (ZaP l)++(l[ZaP l] :: l.drop (ZaP l+1)):=by
  rw [←List.drop_eq_getElem_cons h0,List.take_append_drop]
 have hdot:l[ZaP l]=46:=by
  have:=List.findIdx_getElem (p:=fun c:UInt8=>c == 46) (xs:=l) (w:=h0);exact beq_iff_eq.1 this
 refine ⟨fun c hc=>?_,?_⟩
 ·rw [hs,List.mem_append,List.mem_cons] at hc;rcases hc with hc|rfl|hc
  ·exact p1.1 c hc
  ·rw [hdot];unfold Zee;decide
  ·exact p2.1 c hc
 ·have q1:=p1.2;have q2:=p2.2;rw [List.length_take] at q1;rw [List.length_drop] at q2;omega
theorem ZcJ {l:List UInt8} (h:∀ c ∈ l,Zee c):Lib.validD l=true:=by
 rw [Lib.validD_ascii l.length l (fun c hc=>(h c (List.mem_of_mem_take hc)).1),List.drop_length];exact Lib.validD_nil
theorem Zie {h:Nat} {s:List UInt8} (ha:ZaW h s=true):Lib.validD s=true/\s.length<=4096/\s.contains 10=false:=by
 have nolf:(∀ c ∈ s,Zee c)->s.contains 10=false:=fun hp=>by
  rw [Bool.eq_false_iff];intro hc;rw [List.contains_iff_mem] at hc;exact (hp 10 hc).2.1 rfl
 unfold ZaW at ha;by_cases e2:h=2
 ·rw [if_pos e2] at ha;simp only [Bool.and_eq_true,decide_eq_true_eq,Bool.not_eq_true'] at ha;exact ⟨ha.1.2,by omega,ha.2⟩
 rw [if_neg e2] at ha;by_cases e3:h=3
 ·rw [if_pos e3] at ha;have p:=Zcq (Zbe ha);exact ⟨ZcJ p.1,by omega,nolf p.1⟩
 rw [if_neg e3] at ha;by_cases e4:h=4
 ·rw [if_pos e4,Bool.or_eq_true,decide_eq_true_eq] at ha;rcases ha with ha|ha
  ·have p:=Zcq (Zbe ha);exact ⟨ZcJ p.1,by omega,nolf p.1⟩
  ·have hr:Zak s=true:=by
    cases hq:Zak s with
    | true=>rfl
    | false=>rw [Zdh hq] at ha;omega
   have p:=Zft _ s (Nat.le_refl _) hr;have q:=Zdd hr;exact ⟨ZcJ p,by omega,nolf p⟩
 rw [if_neg e4] at ha;by_cases e5:h=5
 ·rw [if_pos e5,Bool.and_eq_true] at ha;have p:=Zft _ s (Nat.le_refl _) ha.1;have q:=Zdd ha.1;exact ⟨ZcJ p,by omega,nolf p⟩
 rw [if_neg e5] at ha;by_cases e6:h=6
 ·rw [if_pos e6] at ha;have p:=ZiP ha;exact ⟨ZcJ p.1,by omega,nolf p.1⟩
 rw [if_neg e6] at ha;have:s=[]:=by simpa using ha
 rw [this];exact ⟨rfl,by simp,rfl⟩
theorem Zgr {x:Ins} (h:x.e=0):idx x.op<42/\ZaJ (idx x.op)=x.op/\(Zbj (idx x.op) ≠ 1->x.n=0)/\ZaW (Zbj (idx x.op)) x.s=true:=by
 unfold Ins.e Za1 at h;by_cases hN:idx x.op<42
 ·rw [if_pos hN] at h;refine ⟨hN,beq_iff_eq.1 (Zhl x.op hN),fun h1=>?_,?_⟩
  ·by_cases hn:x.n=0
   ·exact hn
   ·rw [if_pos ⟨h1,hn⟩] at h;cases h
  ·split at h
   ·cases h
   ·split at h
    ·assumption
    ·cases h
 ·rw [if_neg hN] at h;cases h
def i64 (n:Int):Prop:=-9223372036854775808<=n/\n<=9223372036854775807
def Cat.held (c:Cat):Prop:=i64 c.fr/\i64 c.till/\i64 c.at_
def Mth.held (m:Mth):Prop:=i64 m.loc/\(∀ x ∈ m.code,i64 x.n)/\(∀ x ∈ m.cats,x.held)
def Cls.held (c:Cls):Prop:=∀ m ∈ c.mths,m.held
theorem Zgv {l:List UInt8} (h:memB l=true):l.length<=32:=by
 unfold memB at h;rw [Bool.and_eq_true] at h;exact (Zbt h.1).2
theorem Zc2 {l:List UInt8} (h:Zal l=true):l.length<=32:=(Zbt (Zbe h)).2
theorem ZpM {x:Ins} (h:x.fine=true) (hn:i64 x.n):x.e=0/\x.ok:=by
 have h0:x.e=0:=by unfold Ins.fine at h;simpa using h
 have h1:=(Zie (Zgr h0).2.2.2).2.1;exact ⟨h0,hn,by omega⟩
structure Mth.Good (m:Mth):Prop where
 ok:m.ok=true
 few:m.many=false
 held:m.held
theorem Mth.Good.name {m:Mth} (h:m.Good):memB m.name=true:=by have:=h.ok;unfold Mth.ok at this;simp only [Bool.and_eq_true] at this;exact this.1
theorem Mth.Good.params {m:Mth} (h:m.Good):∀ x ∈ m.params,Zak x=true:=by have:=h.ok;unfold Mth.ok at this;simp only [Bool.and_eq_true,List.all_eq_true] at this;exact this.2.1
theorem Mth.Good.res {m:Mth} (h:m.Good):m.res=[]\/Zak m.res=true:=by have:=h.ok;unfold Mth.ok at this;simp only [Bool.and_eq_true,Bool.or_eq_true,decide_eq_true_eq] at this;exact this.2.2.1
theorem Mth.Good.body {m:Mth} (h:m.Good):m.body=true:=by have:=h.ok;unfold Mth.ok at this;simp only [Bool.and_eq_true] at this;exact this.2.2.2
theorem Mth.Good.nums {m:Mth} (h:m.Good):m.params.length<=32/\m.cats.length<=32/\m.code.length<=200/\m.loc<=64:=by
 have:=h.few;unfold Mth.many at this;simp only [Bool.or_eq_false_iff,decide_eq_false_iff_not] at this;omega
theorem Mth.Good.real {m:Mth} (h:m.Good) (ha:m.abs=false):0<m.code.length/\(∀ x ∈ m.code,x.fine=true)/\(∀ x ∈ m.cats,Cat.ok m.code.length x=true)/\(m.params.length:Int)<m.loc:=by
 have:=h.body;unfold Mth.body at this;rw [ha] at this;simp only [Bool.false_eq_true,if_false,Bool.and_eq_true,List.all_eq_true,decide_eq_true_eq] at this;exact ⟨this.2.1,this.2.2.1,this.2.2.2,this.1⟩
theorem Zn6 {n:Nat} {c:Cat} (h:Cat.ok n c=true) (hn:n<=200):(0<=c.fr/\c.fr<=200)/\(0<=c.till/\c.till<=200)/\(0<=c.at_/\c.at_<=200)/\Zal c.cls=true:=by
 unfold Cat.ok at h;simp only [Bool.and_eq_true,decide_eq_true_eq] at h;refine ⟨by omega,by omega,by omega,h.2.2.2.2.2⟩
theorem Mth.Good.res_len {m:Mth} (h:m.Good):m.res.length<=38:=by
 rcases h.res with e|e
 ·rw [e];simp
 ·exact Zdd e
structure Cls.Good (c:Cls):Prop where
 e:c.e=0
 held:c.held
theorem Cls.Good.parts {c:Cls} (h:c.Good):c.many=false/\c.fine=true:=by
 have:=h.e;unfold Cls.e at this;cases hm:c.many
 ·cases hf:c.fine
  ·rw [hm,hf] at this;simp at this
  ·exact ⟨rfl,rfl⟩
 ·rw [hm] at this;simp at this
theorem Cls.Good.nums {c:Cls} (h:c.Good):c.like.length<=32/\c.flds.length<=32/\c.mths.length<=32:=by
 have:=h.parts.1;unfold Cls.many at this;simp only [Bool.or_eq_false_iff,decide_eq_false_iff_not] at this;omega
theorem Cls.Good.name {c:Cls} (h:c.Good):Zal c.name=true:=by
 have:=h.parts.2;unfold Cls.fine Cls.names at this;simp only [Bool.and_eq_true] at this;exact this.1.1
theorem Cls.Good.above {c:Cls} (h:c.Good):Zal c.sup=true/\∀ x ∈ c.like,Zal x=true:=by
 have:=h.parts.2;unfold Cls.fine Cls.names at this;simp only [Bool.and_eq_true,List.all_cons,List.all_eq_true] at this;exact this.1.2.1
theorem Cls.Good.flds {c:Cls} (h:c.Good):∀ x ∈ c.flds,x.ok=true:=by
 have:=h.parts.2;unfold Cls.fine at this;simp only [Bool.and_eq_true,List.all_eq_true] at this;exact this.2.2.1
theorem Cls.Good.mths {c:Cls} (h:c.Good):∀ x ∈ c.mths,x.Good:=by
 have h1:=h.parts.2;have h2:=h.parts.1;unfold Cls.fine at h1;unfold Cls.many at h2;simp only [Bool.and_eq_true,List.all_eq_true] at h1;simp only [Bool.or_eq_false_iff,List.any_eq_false] at h2;intro x hx;refine ⟨h1.2.2.2 x hx,?_,h.held x hx⟩;have:=h2.2.2.2 x hx
 simpa using this
