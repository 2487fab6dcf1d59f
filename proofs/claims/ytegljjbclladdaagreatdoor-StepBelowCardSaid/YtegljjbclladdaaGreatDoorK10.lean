/- laws -/
import Derived.Test.YtegljjbclladdaaGreatDoorK09
set_option maxRecDepth 100000
set_option maxHeartbeats 16000000
namespace Go.Proofs.YtegljjbclladdaaGreatDoor
open Go.RowKit Go.Lib Tryz
theorem ZjE (l:List UInt8):Zlw (S l)=ZfH l:=by unfold Zlw ZfH;rw[Zat,Zp6,Zp6,Zp6,Zp6]
theorem Zp2 (s:List UInt8)(w:World)(z:s.length<=4611686018427387904) :
  Calls prog 243 #[.string (S s)] w fun e w'=>e=.returned (.bool (validD s))/\∃v,w'=w.drewN v:=by
 obtain⟨R,g⟩:∃R,R=validD s:=⟨_,rfl⟩
 rw[←g];have x:=Hd g;clear g;go_enter func243,ntmps243;go_wp2
 go_loopg [0] (s.length+1) (fun gk A wr=>(∃v,wr=w.drewN v)/\∃t:List UInt8,A=.string (S t)/\validD t=R/\t.length<gk/\t.length<=4611686018427387904)
 case atStart=>exact⟨⟨0,rfl⟩,s,rfl,x.o.symm,by omega,z⟩
 case round=>
  obtain⟨⟨v,rfl⟩,t,rfl,r,y,j⟩:=hrel;have p:=Hd r;clear r;cases t with
  |nil=>
   have g:R=true:=by rw[←p.o];rfl
   subst g;rw[show S []=⟨#[]⟩from rfl];go_wp2;go_ret;exact⟨rfl,_,rfl⟩
  |cons b t=>
   rw[YaI]at y j;obtain⟨u,a⟩:∃u,u=S (b::t):=⟨_,rfl⟩
   have f:u.size=t.length+1:=by rw[a,Zat];rfl
   have i:=Hd (Zqk u (w.drewN v) (by omega));have I:t.length+1<=4611686018427387904:=j;have n:=Zqj (b::t) (by simp);rw[←ZjE,←a]at n;obtain⟨l,c⟩:∃l,l=Zlw u:=⟨_,rfl⟩
   rw[←c]at i n;rw[←a];have E:(0:Int)<(u.size:Int):=by omega
   have G:(l:Int)<=(u.size:Int):=by rw[f];simp at n;omega
   have B:(u.size:Int)<=4611686018427387904:=by omega
   have C:(!u.toList.isEmpty)=true:=by rw[a,Zaf];rfl
   have q:=Hd a;have D:=Hd f;have h:=Hd c;clear a f c;go_wp2_with (go_at_call 252;refine i.o.mono ?_;rintro e F⟨rfl,H,rfl⟩)
   ·go_ret;have d:((l:Int)==0)=true:=by assumption
    rw[beq_iff_eq]at d;have k:validD (b::t)=false:=by
     rw[Zg9 _ (by simp),←ZjE,←q.o,←h.o,Yay (by omega)]
    exact⟨by rw[←p.o,k];rfl,_,rfl⟩
   ·have d:((l:Int)==0)=false:=by assumption
    rw[Yah]at d;have k:validD (b::t)=validD ((b::t).drop l):=by
     rw[Zg9 _ (by simp),←ZjE,←q.o,←h.o,Yar (by omega)]
    obtain⟨m,rfl⟩:∃m,gk=m+1:=⟨gk-1,by omega⟩
    go_roundg m
    case measure=>omega
    case rel=>exact⟨⟨_,rfl⟩,(b::t).drop l,by rw[q.o,ZfC],by rw[←k];exact p.o,by rw[Ybr,YaI];omega,by rw[Ybr,YaI];omega⟩
end Go.Proofs.YtegljjbclladdaaGreatDoor
namespace Go.Proofs.YtegljjbclladdaaGreatDoor
open Go.RowKit Tryz

theorem Tabs.below {a w:World}(c:Tabs a)(b:Below a.heap.size a w):Tabs w:=Utf8Tabs_below c b
def Ins.ok (x:Ins):Prop:=(-9223372036854775808<=x.n/\x.n<=9223372036854775807)/\x.s.length<=1048576
def ZeS (c:UInt8):Prop:=c.toNat<128/\c.toNat≠10/\c.toNat≠32
theorem Zmd {i:Nat}{c:UInt8}(a:okAt i c=true):ZeS c:=by
 unfold okAt Zcg ZdO at a;simp at a;unfold ZeS;omega
theorem ZcH {l:List UInt8}(f:ZbS l=true):(∀c∈l,ZeS c)/\l.length<=32:=by
 refine⟨fun c d=>?_,(ZbK f).2⟩;obtain⟨i,a,rfl⟩:=List.getElem_of_mem d;have b:=ZhH f i a;rw[List.getD,Yaa a,Option.getD_some]at b;exact Zmd b
theorem Zgr:∀(n:Nat) (l:List UInt8),l.length<=n->Zag l=true->∀c∈l,ZeS c:=by
 intro n;induction n with
 |zero=>
  intro l j _ c a;rw[Ya0.1 (by omega:l.length=0)]at a;simp at a
 |succ n i=>
  intro l j b c a;cases d:Zby l with
  |false=>
   have h:=ZcR d;have g:Zbp l=l:=by unfold Zbp;rw[h];simp
   have:=Ze9 b;rw[g]at this;exact(ZcH this).1 c a
  |true=>
   have f:=Zn0 d;have k:=Zdp d;rw[←f]at b a;rw[Zi2,Yaw]at b;unfold ofL at a;rw[Yaq]at a;rcases a with a|a
   ·exact i _ (by rw[YaA];omega) b.1 c a
   ·simp at a;rcases a with rfl|rfl<;>(unfold ZeS;decide)
theorem Zdy {l:List UInt8}(a:Zag l=true):l.length<=38:=by
 have b:=(ZcH (Ze9 a)).2;rw[Zc6]at b;have c:ZaL l<=3:=by
  unfold Zag at a;simp at a;exact a.1
 omega
theorem Zkd {l:List UInt8}(n:ZaU l=true):(∀c∈l,ZeS c)/\l.length<=65:=by
 unfold ZaU ZaA at n;simp only[Yaw,YaP]at n;obtain⟨d,h,i,_⟩:=n;have g:=ZcH (Zbs h);have f:=ZcH i;have j:l=l.take (ZaQ l)++(l[ZaQ l]::l.drop (ZaQ l+1)):=by
  rw[←YbJ d,Ya5]
 have b:l[ZaQ l]=46:=by
  have:=YbY (p:=fun c:UInt8=>c==46) (xs:=l) (w:=d);exact beq_iff_eq.1 this
 refine⟨fun c a=>?_,?_⟩
 ·rw[j,Yaq,Yai]at a;rcases a with a|rfl|a
  ·exact g.1 c a
  ·rw[b];unfold ZeS;decide
  ·exact f.1 c a
 ·have k:=g.2;have m:=f.2;rw[YaA]at k;rw[Ybr]at m;omega
theorem ZcZ {l:List UInt8}(b:∀c∈l,ZeS c):Lib.validD l=true:=by
 rw[Lib.validD_ascii l.length l (fun c a=>(b c (Ybg a)).1),List.drop_length];exact Lib.validD_nil
theorem ZjA {d:Nat}{s:List UInt8}(a:Za3 d s=true):Lib.validD s=true/\s.length<=4096/\s.contains 10=false:=by
 have b:(∀c∈s,ZeS c)->s.contains 10=false:=fun m=>by
  rw[Yb3];intro g;rw[YbS]at g;exact(m 10 g).2.1 rfl
 unfold Za3 at a;by_cases h:d=2
 ·rw[Yay h]at a;simp only[Yaw,YaP,Ybj]at a;exact⟨a.1.2,by omega,a.2⟩
 rw[Yar h]at a;by_cases j:d=3
 ·rw[Yay j]at a;have p:=ZcH (Zbs a);exact⟨ZcZ p.1,by omega,b p.1⟩
 rw[Yar j]at a;by_cases k:d=4
 ·rw[Yay k,YaZ,YaP]at a;rcases a with a|a
  ·have p:=ZcH (Zbs a);exact⟨ZcZ p.1,by omega,b p.1⟩
  ·have l:Zag s=true:=by
    cases n:Zag s with
    |true=>rfl
    |false=>rw[ZdE n]at a;omega
   have p:=Zgr _ s (Yad _) l;have q:=Zdy l;exact⟨ZcZ p,by omega,b p⟩
 rw[Yar k]at a;by_cases i:d=5
 ·rw[Yay i,Yaw]at a;have p:=Zgr _ s (Yad _) a.1;have q:=Zdy a.1;exact⟨ZcZ p,by omega,b p⟩
 rw[Yar i]at a;by_cases f:d=6
 ·rw[Yay f]at a;have p:=Zkd a;exact⟨ZcZ p.1,by omega,b p.1⟩
 rw[Yar f]at a;have:s=[]:=by simpa using a
 rw[this];exact⟨rfl,by simp,rfl⟩
theorem ZhB {x:Ins}(a:x.e=0):idx x.op<42/\ZaB (idx x.op)=x.op/\(Zbz (idx x.op)≠1->x.n=0)/\Za3 (Zbz (idx x.op)) x.s=true:=by
 unfold Ins.e Za9 at a;by_cases b:idx x.op<42
 ·rw[Yay b]at a;refine⟨b,beq_iff_eq.1 (Zf1 x.op b),fun d=>?_,?_⟩
  ·by_cases c:x.n=0
   ·exact c
   ·rw[Yay ⟨d,c⟩]at a;cases a
  ·split at a
   ·cases a
   ·split at a
    ·assumption
    ·cases a
 ·rw[Yar b]at a;cases a
def i64 (n:Int):Prop:=-9223372036854775808<=n/\n<=9223372036854775807
def Cat.held (c:Cat):Prop:=i64 c.fr/\i64 c.till/\i64 c.at_
def Mth.held (m:Mth):Prop:=i64 m.loc/\(∀x∈m.code,i64 x.n)/\(∀x∈m.cats,x.held)
def Cls.held (c:Cls):Prop:=∀m∈c.mths,m.held
theorem ZhF {l:List UInt8}(a:memB l=true):l.length<=32:=by
 unfold memB at a;rw[Yaw]at a;exact(ZbK a.1).2
theorem Zdm {l:List UInt8}(a:Zah l=true):l.length<=32:=(ZbK (Zbs a)).2
theorem Zn6 {x:Ins}(c:x.fine=true)(b:i64 x.n):x.e=0/\x.ok:=by
 have a:x.e=0:=by unfold Ins.fine at c;simpa using c
 have d:=(ZjA (ZhB a).2.2.2).2.1;exact⟨a,b,by omega⟩
structure Mth.Good (m:Mth):Prop where
 ok:m.ok=true
 few:m.many=false
 held:m.held
theorem Mth.Good.name {m:Mth}(a:m.Good):memB m.name=true:=by have:=a.ok;unfold Mth.ok at this;simp only[Yaw]at this;exact this.1
theorem Mth.Good.params {m:Mth}(a:m.Good):∀x∈m.params,Zag x=true:=by have:=a.ok;unfold Mth.ok at this;simp only[Yaw,YaF]at this;exact this.2.1
theorem Mth.Good.res {m:Mth}(a:m.Good):m.res=[]\/Zag m.res=true:=by have:=a.ok;unfold Mth.ok at this;simp only[Yaw,YaZ,YaP]at this;exact this.2.2.1
theorem Mth.Good.body {m:Mth}(a:m.Good):m.body=true:=by have:=a.ok;unfold Mth.ok at this;simp only[Yaw]at this;exact this.2.2.2
theorem Mth.Good.nums {m:Mth}(a:m.Good):m.params.length<=32/\m.cats.length<=32/\m.code.length<=200/\m.loc<=64:=by
 have:=a.few;unfold Mth.many at this;simp only[Ybv,decide_eq_false_iff_not]at this;omega
theorem Mth.Good.real {m:Mth}(b:m.Good)(a:m.abs=false):0<m.code.length/\(∀x∈m.code,x.fine=true)/\(∀x∈m.cats,Cat.ok m.code.length x=true)/\(m.params.length:Int)<m.loc:=by
 have:=b.body;unfold Mth.body at this;rw[a]at this;simp only[Yb2,if_false,Yaw,YaF,YaP]at this;exact⟨this.2.1,this.2.2.1,this.2.2.2,this.1⟩
theorem Zqi {n:Nat}{c:Cat}(a:Cat.ok n c=true)(b:n<=200):(0<=c.fr/\c.fr<=200)/\(0<=c.till/\c.till<=200)/\(0<=c.at_/\c.at_<=200)/\Zah c.cls=true:=by
 unfold Cat.ok at a;simp only[Yaw,YaP]at a;refine⟨by omega,by omega,by omega,a.2.2.2.2.2⟩
theorem Mth.Good.res_len {m:Mth}(a:m.Good):m.res.length<=38:=by
 rcases a.res with e|e
 ·rw[e];simp
 ·exact Zdy e
structure Cls.Good (c:Cls):Prop where
 e:c.e=0
 held:c.held
theorem Cls.Good.parts {c:Cls}(d:c.Good):c.many=false/\c.fine=true:=by
 have:=d.e;unfold Cls.e at this;cases a:c.many
 ·cases b:c.fine
  ·rw[a,b]at this;simp at this
  ·exact⟨rfl,rfl⟩
 ·rw[a]at this;simp at this
theorem Cls.Good.nums {c:Cls}(a:c.Good):c.like.length<=32/\c.flds.length<=32/\c.mths.length<=32:=by
 have:=a.parts.1;unfold Cls.many at this;simp only[Ybv,decide_eq_false_iff_not]at this;omega
theorem Cls.Good.name {c:Cls}(a:c.Good):Zah c.name=true:=by
 have:=a.parts.2;unfold Cls.fine Cls.names at this;simp only[Yaw]at this;exact this.1.1
theorem Cls.Good.above {c:Cls}(a:c.Good):Zah c.sup=true/\∀x∈c.like,Zah x=true:=by
 have:=a.parts.2;unfold Cls.fine Cls.names at this;simp only[Yaw,Ycg,YaF]at this;exact this.1.2.1
theorem Cls.Good.flds {c:Cls}(a:c.Good):∀x∈c.flds,x.ok=true:=by
 have:=a.parts.2;unfold Cls.fine at this;simp only[Yaw,YaF]at this;exact this.2.2.1
theorem Cls.Good.mths {c:Cls}(f:c.Good):∀x∈c.mths,x.Good:=by
 have a:=f.parts.2;have b:=f.parts.1;unfold Cls.fine at a;unfold Cls.many at b;simp only[Yaw,YaF]at a;simp only[Ybv,YaW]at b;intro x d;refine⟨a.2.2.2 x d,?_,f.held x d⟩;have:=b.2.2.2 x d;simpa using this
