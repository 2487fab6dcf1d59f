/- laws -/
import Derived.Test.YtggcdinoflchjaaGreatDoorK14
import Derived.LaidEqlPtr
set_option maxRecDepth 100000
set_option maxHeartbeats 16000000
namespace Go.Proofs.YtggcdinoflchjaaGreatDoor
open Go.RowKit
def topL (l:List UInt8):List UInt8:=if Zaj l then Zbe l else l
theorem ZnM {l:List UInt8} (b:depN l=0):topL l=l:=by
 unfold topL;split
 ·rename_i a
  rw [ZbF a] at b;unfold Zbe;rw [b,Nat.mul_zero,Nat.sub_zero,YaJ]
 ·rfl
theorem ZnL {l:List UInt8} (b:0<depN l):topL (Zc0 l)=topL l/\depN (Zc0 l)<depN l/\(Zc0 l).length<=l.length:=by
 have a:Zaj l=true:=by
  cases a:Zaj l with
  | true=>rfl
  | false=>rw [Zdm a] at b;cases b
 rw [ZbF a] at b ⊢;obtain ⟨c,f,_⟩:=Zj7 a b;have g:=Zdl l;have d:Zc0 l=l.take (l.length - 2):=by unfold Zc0;rw [YaC ⟨a,b⟩]
 refine ⟨?_,by rw [ZbF c];omega,by rw [d,Yay];omega⟩;unfold topL;rw [YaC c,YaC a];unfold Zbe;rw [f,d,Ycy,Yay]
 congr 1
 omega
def ZbY (es:List Ent) (l:List UInt8):Bool:=ZaB (topL l) || (Zad es (topL l)).isSome
def Zpx (v:Value) (w:World) (e:Ending) (w':World):Prop:=e=.returned v/\Below w.heap.size w w'
theorem Zgj {A:Nat->Prop} {B:Nat->Nat} {ad ab:Nat} {es:List Ent} {i:World} (Q:Tab A i ad ab B es) (l:List UInt8) (w:World) (P:Below i.heap.size i w) (M:l.length<=9223372036854775807) :
  Calls Tryz.prog 41 #[.pointer (some ⟨ad,0,none⟩),.string (S l)] w (Said (ZbY es l) w):=by
 have U:=Hd P;have X:=Hd M;have V:=Hd Q;obtain ⟨R,F⟩:∃ R,R=ZbY es l:=⟨_,rfl⟩
 rw [←F];have Z:=Hd F;clear P M Q F;go_enter Tryz.func41,Tryz.ntmps41;go_wp2
 go_loopg [1] (depN l+1) (fun Y aa wr=>∃ m:List UInt8,aa=.string (S m)/\topL m=topL l/\m.length<=l.length/\depN m<Y/\Below w.heap.size w wr)
 case atStart=>exact ⟨l,rfl,rfl,Yac _,Nat.lt_succ_self _,Yab _ _⟩
 case round=>
  obtain ⟨m,rfl,g,t,x,y⟩:=hrel;have j:=Hd g;have s:=Hd y;have N:=Hd x;have I:=Hd t;have E:m.length<=9223372036854775807:=by have:=X.o;omega
  have f:=Hd (Zd4 m wr E);unfold Zib at f;clear g y x t;by_cases r:depN m=0
  ·have J:topL m=m:=ZnM r;rw [r] at f;have b:Hid (R=(ZaB m || (Zad es m).isSome)):=Hd (by rw [Z.o];unfold ZbY;rw [←j.o,J]);clear r J
   go_wp2_with fail
   refine f.o.mono ?_;rintro e k ⟨rfl,c⟩;have a:=Hd (s.o.trans (c.mono s.o.size));clear c f;have L:=Hd (Zfr m k)
   go_wp2_with fail
   refine L.o.mono ?_;rintro e w2 ⟨rfl,rfl⟩;clear L;generalize ZaB m=p at b;cases p with
   | true=>
    obtain rfl:R=true:=by rw [b.o];rfl
    go_wp2;go_ret;exact ⟨rfl,a.o⟩
   | false=>
    have v:Below i.heap.size i k:=U.o.trans (a.o.mono U.o.size);have h:=V.o.below v;have ae:=h.box.cell 0 rfl;have d:=h.look m E;clear v h;cases q:Zad es m with
    | none=>
     rw [q] at b d;obtain rfl:R=false:=by rw [b.o];rfl
     rw [Zeh] at d;clear q;go_wp2;go_ret;exact ⟨rfl,a.o⟩
    | some af=>
     rw [q] at b d;obtain rfl:R=true:=by rw [b.o];rfl
     rw [ZbW] at d;clear q;go_wp2;go_ret;exact ⟨rfl,a.o⟩
  ·have H:0<depN m:=by omega
   obtain ⟨T,O,G⟩:=ZnL H;have ac:(0:Int)<(depN m:Int):=by omega
   have n:=Hd (fun w=>Zok m w E);unfold Zca at n;have D:=Hd (T.trans j.o);have z:=Hd O;have u:=Hd (Yaq G I.o);clear H T O G r;generalize Zc0 m=W at n D z u
   go_wp2_with fail
   refine f.o.mono ?_;rintro e k ⟨rfl,c⟩;have a:=Hd (s.o.trans (c.mono s.o.size));clear c f
   go_wp2_with fail
   refine (n.o k).mono ?_;rintro e w2 ⟨rfl,C⟩;have K:=Hd (a.o.trans (C.mono a.o.size));clear C n;go_wp2
   go_roundg (depN m)
   case measure=>exact N.o
   case rel=>exact ⟨W,rfl,D.o,u.o,z.o,K.o⟩
def Zdq:List UInt8:=[110,117,108,108]
def ZeI (es:List Ent) (l:List UInt8):Bool:=l == Zdq || ZbY es l
theorem Zhu {A:Nat->Prop} {B:Nat->Nat} {k j:Nat} {es:List Ent} {b:World} (g:Tab A b k j B es) (l:List UInt8) (w:World) (c:Below b.heap.size b w) (f:l.length<=9223372036854775807) :
  Calls Tryz.prog 24 #[.pointer (some ⟨k,0,none⟩),.string (S l)] w (Said (ZeI es l) w):=by
 have a:=Hd (Zgj g l w c f);have h:ZeI es l=(l == Zdq || ZbY es l):=rfl;rw [h];clear h c f g;have p:=Zae l;unfold Zdq;generalize ZbY es l=d at a ⊢;cases n:(l == [110,117,108,108])
 ·go_enter Tryz.func24,Tryz.ntmps24
  go_wp2_with fail
  refine a.o.mono ?_;rintro e m ⟨rfl,i⟩;clear a;go_wp2;go_ret;exact ⟨rfl,i⟩
 ·clear a;go_enter Tryz.func24,Tryz.ntmps24;go_wp2;go_ret;exact ⟨rfl,Yab _ _⟩
def derE (es:List Ent) (l:List UInt8):Option Nat:=if 0<depN l/\ZbY es l=true then Zad es objL else Zad es l
theorem Ziq {A:Nat->Prop} {B:Nat->Nat} {F y:Nat} {es:List Ent} {j:World} (u:Tab A j F y B es) (l:List UInt8) (w:World) (E:Below j.heap.size j w) (x:l.length<=9223372036854775807) :
  Calls Tryz.prog 124 #[.pointer (some ⟨F,0,none⟩),.string (S l)] w (Zpx (ptrV B (derE es l)) w):=by
 have q:=Hd (fun w' (h:Below j.heap.size j w')=>Zgj u l w' h x);have g:=Hd (Zd4 l w x);unfold Zib at g;have k:Hid (∀ w',Below j.heap.size j w'->w'.cell? ⟨F,0,none⟩=some (.map (some y))/\(Instr.lookup 79 (.map (some y)) (.string (S l)) false).run Tryz.prog w'=.ok (ptrV B (Zad es l)) w'/\
   (Instr.lookup 79 (.map (some y)) (.string ⟨#[79,98,106,101,99,116]⟩) false).run Tryz.prog w'=.ok (ptrV B (Zad es objL)) w'):=Hd (fun w' h=>
  ⟨(u.below h).box.cell 0 rfl,(u.below h).look l x,(u.below h).look objL (by decide)⟩)
 have c:=Hd E;obtain ⟨v,z⟩:∃ v,v=ptrV B (derE es l):=⟨_,rfl⟩
 rw [←z];have n:=Hd z;clear E x u z;by_cases t:0<depN l
 ·have G:(0:Int)<(depN l:Int):=by omega
  cases m:ZbY es l
  ·have d:derE es l=Zad es l:=by unfold derE;rw [Yas (by rw [m];simp)]
   rw [d] at n;have s:=Hd m;clear t d m;go_enter Tryz.func124,Tryz.ntmps124
   go_wp2_with fail
   refine g.o.mono ?_;rintro e p ⟨rfl,b⟩;have a:=Hd b;clear b g
   go_wp2_with fail
   refine (q.o p (c.o.trans (a.o.mono c.o.size))).mono ?_;rintro e w2 ⟨rfl,i⟩;have f:=Hd (a.o.trans (i.mono a.o.size));clear i q;rw [s.o];obtain ⟨C,r,_⟩:=k.o w2 (c.o.trans (f.o.mono c.o.size));rw [←n.o] at r;clear k;go_wp2;go_ret;exact ⟨rfl,f.o⟩
  ·have d:derE es l=Zad es objL:=by unfold derE;rw [YaC ⟨t,m⟩]
   rw [d] at n;have s:=Hd m;clear t d m;go_enter Tryz.func124,Tryz.ntmps124
   go_wp2_with fail
   refine g.o.mono ?_;rintro e p ⟨rfl,b⟩;have a:=Hd b;clear b g
   go_wp2_with fail
   refine (q.o p (c.o.trans (a.o.mono c.o.size))).mono ?_;rintro e w2 ⟨rfl,i⟩;have f:=Hd (a.o.trans (i.mono a.o.size));clear i q;rw [s.o];obtain ⟨C,_,r⟩:=k.o w2 (c.o.trans (f.o.mono c.o.size));rw [←n.o] at r;clear k;go_wp2;go_ret;exact ⟨rfl,f.o⟩
 ·have d:derE es l=Zad es l:=by unfold derE;rw [Yas (fun H=>t H.1)]
  rw [d] at n;have D:depN l=0:=by omega
  rw [D] at g;clear t d D q;go_enter Tryz.func124,Tryz.ntmps124
  go_wp2_with fail
  refine g.o.mono ?_;rintro e p ⟨rfl,b⟩;have a:=Hd b;clear b g;obtain ⟨C,r,_⟩:=k.o p (c.o.trans (a.o.mono c.o.size));rw [←n.o] at r;clear k;go_wp2;go_ret;exact ⟨rfl,a.o⟩
def Zfd (es:List Ent):Nat->Option Nat->List Nat
 | 0,_=>[]
 | _+1,none=>[]
 | n+1,some i=>match es[i]? with
  | some e=>i :: Zfd es n e.up
  | none=>[]
def Zap (es:List Ent) (o:Option Nat):List Nat:=Zfd es es.length o
def ZaE (es:List Ent) (o:Option Nat):List Nat:=ZcO es es.length (Zap es o)
structure Shape (es:List Ent):Prop where
 len:es.length<=1048576
 lk:∀ (i:Nat) (e:Ent),es[i]? = some e->e.lk.length<=9223372036854775807
 fl:∀ (i:Nat) (e:Ent),es[i]? = some e->e.cls.flds.length<=32
 nm:∀ (i:Nat) (e:Ent),es[i]? = some e->e.cls.name.length<=32
 chain:∀ i,i<es.length->Zdw es (Zap es (some i)) (some i)
 deep:∀ (i:Nat) (e:Ent),es[i]? = some e->Deep es es.length e.lk
def nmE (es:List Ent) (x:Nat):List UInt8:=match es[x]? with|some e=>e.cls.name|none=>[]
theorem ZhJ {es:List Ent} {x:Nat} {e:Ent} (a:es[x]? = some e):nmE es x=e.cls.name:=by unfold nmE;rw [a]
theorem Shape.nmE_le {es:List Ent} (b:Shape es) (x:Nat):(nmE es x).length<=32:=by
 unfold nmE;cases a:es[x]? with
 | none=>simp
 | some e=>exact b.nm x e a
theorem Zbt {es:List Ent}:∀ {L:List Nat} {o:Option Nat},Zdw es L o->∀ d ∈ L,∃ e,es[d]? = some e
 | [],_,_,d,hd=>by simp at hd
 | i :: l,_,⟨_,e,he,hc⟩,d,hd=>by
  rcases Yav.1 hd with a|a
  ·subst a;exact ⟨e,he⟩
  ·exact Zbt hc d a
theorem Za6 (es:List Ent):Zap es none=[]:=by
 unfold Zap;cases es.length <;> rfl
theorem Za4 {es:List Ent} {n:List UInt8} {i:Nat} (a:Zad es n=some i):i<es.length:=by
 unfold Zad at a;exact (YaV.1 a).1
theorem Shape.line {es:List Ent} (b:Shape es) (o:Option Nat) (a:∀ i,o=some i->i<es.length):Zdw es (Zap es o) o:=by
 cases o with
 | none=>rw [Za6];exact rfl
 | some i=>exact b.chain i (a i rfl)
theorem Shape.mem {es:List Ent} (f:Shape es) {L:List Nat} {o:Option Nat} (b:Zdw es L o):∀ d ∈ L,∃ e,es[d]? = some e/\Deep es es.length e.lk:=fun d c=>by
 obtain ⟨e,a⟩:=Zbt b d c;exact ⟨e,a,f.deep d e a⟩
theorem Zd0 {es:List Ent} (c:Shape es) {o:Option Nat} (b:∀ i,o=some i->i<es.length):∀ x ∈ ZaE es o,x<es.length:=fun x f=>by
 rcases Yao.1 f with a|a
 ·obtain ⟨e,d⟩:=Zbt (c.line o b) x a;exact (Yag.1 d).1
 ·exact (Zhp (c.mem (c.line o b))).2 x a
theorem ZjJ {A:Nat->Prop} {B:Nat->Nat} {L F:Nat} {es:List Ent} {q:World} (E:Tab A q L F B es) (c:Shape es) (t:Nat) (a:Array Value) (y:∀ args w,(callFunc t args).run Tryz.prog w=.ok (.enter t args) w)
  (o:Option Nat) (f:∀ i,o=some i->i<es.length) (p:Nat->Bool) (w:World) (v:Below q.heap.size q w) (D:∀ x w',x<es.length->Below w.heap.size w w'->Calls Tryz.prog t (#[entV B x]++a) w' (Said (p x) w')) :
  Calls Tryz.prog 192 #[ptrV B o,.func (.func t) #[] a] w (Said ((ZaE es o).any p) w):=by
 have u:=c.line o f;refine (ZgY E c.len c.lk t a y w.heap.size es.length o (Zap es o) u (c.mem u) (fun k w'=>Below w.heap.size w w'/\((ZaE es o).take k).any p=false) (fun _ w'=>Below w.heap.size w w'/\(ZaE es o).any p=true) w (Yac _)
  (fun k w' r=>v.trans (r.1.mono v.size)) (fun k K w2 r f=>⟨r.1.trans (Only.below f r.1.size (fun i C=>C)),r.2⟩) (fun k x w' H j=>?_) ⟨Yab _ _,by simp⟩).mono fun e w' M=>?_
 ·have d:(ZaE es o)[k]? = some x:=H;refine (D x w' (Zd0 c f x (Yaf d)) j.1).mono fun e J ⟨h,g⟩=>?_
  have s:=j.1.trans (g.mono j.1.size);refine ⟨⟨p x,h,fun n=>⟨s,YaQ.2 ⟨x,Yaf d,n⟩⟩,fun n=>⟨s,?_⟩⟩,Yad g⟩;rw [Zah p _ k x d,j.2,n];rfl
 ·obtain ⟨b,h,g,G⟩:=M;cases b with
  | true=>
   obtain ⟨_,_,m,l⟩:=g rfl;exact ⟨by rw [l];exact h,m⟩
  | false=>
   obtain ⟨m,l⟩:=G rfl;have z:(ZaE es o).any p=false:=by
    have I:((ZaE es o).take (ZaE es o).length).any p=false:=l
    rwa [YaJ] at I
   exact ⟨by rw [z];exact h,m⟩
theorem ZmN {A:Nat->Prop} {B:Nat->Nat} {D v:Nat} {es:List Ent} {i:World} (u:Tab A i D v B es) (n:Nat) (a:Array Value) (r:∀ args w,(callFunc n args).run Tryz.prog w=.ok (.enter n args) w)
  (L:List Nat) (o:Option Nat) (s:Zdw es L o) (p:Nat->Bool) (w:World) (q:Below i.heap.size i w) (t:∀ x w',x ∈ L->Below w.heap.size w w'->Calls Tryz.prog n (#[entV B x]++a) w' (Said (p x) w')) :
  Calls Tryz.prog 125 #[ptrV B o,.func (.func n) #[] a] w (Said (L.any p) w):=by
 refine (ZeM u n a L o (fun k w'=>Below w.heap.size w w'/\(L.take k).any p=false) (fun _ w'=>Below w.heap.size w w'/\L.any p=true) w r s
  (fun k w' C=>q.trans (C.1.mono q.size)) ⟨Yab _ _,by simp⟩ (fun k x w' l f=>?_)).mono fun e w' E=>?_
 ·refine (t x w' (Yaf l) f.1).mono fun e z ⟨d,j⟩=>?_
  have m:=f.1.trans (j.mono f.1.size);refine ⟨p x,d,fun h=>⟨m,YaQ.2 ⟨x,Yaf l,h⟩⟩,fun h=>⟨m,?_⟩⟩;rw [Zah p _ k x l,f.2,h];rfl
 ·obtain ⟨b,d,j,y⟩:=E;cases b with
  | true=>
   obtain ⟨_,_,g,c⟩:=j rfl;exact ⟨by rw [c];exact d,g⟩
  | false=>
   obtain ⟨g,c⟩:=y rfl;rw [YaJ] at c;exact ⟨by rw [c];exact d,g⟩
theorem ZjE:(Tryz.prog.info? 97).map (·.size)=some 11:=by kernel_rfl
theorem Zol (a:Addr) (w:World):(binOp .eql 94 (.pointer (some a)) (.pointer (some a))).run Tryz.prog w=.ok (.bool true) w:=by
 obtain ⟨i,b,_⟩:=YaU.1 ZjE;exact run_eql_ptr_same w a Tryz.underlying94 b
theorem Zl7 {w:World} {x f:Nat} {c d:Array Value} {k g:TypeId} (a:x ≠ f) (j:Box w x c k) (h:Box w f d g):(binOp .eql 94 (.pointer (some ⟨x,0,none⟩)) (.pointer (some ⟨f,0,none⟩))).run Tryz.prog w=.ok (.bool false) w:=by
 obtain ⟨i,b,l⟩:=YaU.1 ZjE;exact run_eql_ptr_other w Tryz.underlying94 b (by omega) (fun e=>a (by injection e)) j h
theorem Zo7 {A:Nat->Prop} {B:Nat->Nat} {q n:Nat} {es:List Ent} {w:World} (d:Tab A w q n B es) (x:Nat) (o:Option Nat) (g:x<es.length) (f:∀ i,o=some i->i<es.length) (c:Nat) (a:w.cell? ⟨c,0,none⟩=some (ptrV B o)) :
  Calls Tryz.prog 193 #[entV B x,.pointer (some ⟨c,0,none⟩)] w (Said (some x == o) w):=by
 cases o with
 | none=>
  have j:w.cell? ⟨c,0,none⟩=some (.pointer none):=a;clear a f d g;go_enter Tryz.func193,Tryz.ntmps193;go_wp2;go_ret;exact ⟨rfl,Yab _ _⟩
 | some h=>
  have j:w.cell? ⟨c,0,none⟩=some (.pointer (some ⟨B h,0,none⟩)):=a;by_cases e:x=h
  ·subst e;have b:(some x == some x)=true:=by simp
   rw [b];have m:=Zol ⟨B x,0,none⟩ w;clear a f d g b;go_enter Tryz.func193,Tryz.ntmps193;go_wp2;go_ret;exact ⟨rfl,Yab _ _⟩
  ·obtain ⟨_,_,_,_,l,_⟩:=d.ent x _ (Yaa g);obtain ⟨_,_,_,_,k,_⟩:=d.ent h _ (Yaa (f h rfl));have m:=Zl7 (fun p=>e (d.inj x h g (f h rfl) p)) l k;have b:(some x == some h)=false:=by simp [e]
   rw [b];clear a b l k e;go_enter Tryz.func193,Tryz.ntmps193;go_wp2;go_ret;exact ⟨rfl,Yab _ _⟩
def subE (es:List Ent) (a b:List UInt8):Bool:=
 ZeI es a && (ZeI es b && (a == b || (if a == Zdq then !ZaB b else if 0<depN a then b == objL else (ZaE es (Zad es a)).any (fun x=>some x == Zad es b))))
theorem ZgQ {A:Nat->Prop} {B:Nat->Nat} {aj K:Nat} {es:List Ent} {s:World} (q:Tab A s aj K B es) (ac:Shape es) (a b:List UInt8) (w:World) (X:Below s.heap.size s w) (V:a.length<=9223372036854775807) (Z:b.length<=9223372036854775807) :
  Calls Tryz.prog 123 #[.pointer (some ⟨aj,0,none⟩),.string (S a),.string (S b)] w (Said (subE es a b) w):=by
 have au:∀ (ah:Fn) (first M:Array Value) (w:World),(Instr.makeFunc ah first M).run Tryz.prog w=.ok (.func ah first M) w:=fun _ _ _ _=>rfl
 have m:=Hd (Zhu q a w X V);have u:=Hd (fun w' d=>Zhu q b w' d Z);have n:Hid (∀ w',Below s.heap.size s w'->w'.cell? ⟨aj,0,none⟩=some (.map (some K))/\(Instr.lookup 79 (.map (some K)) (.string (S a)) false).run Tryz.prog w'=.ok (ptrV B (Zad es a)) w'/\
   (Instr.lookup 79 (.map (some K)) (.string (S b)) false).run Tryz.prog w'=.ok (ptrV B (Zad es b)) w'):=Hd (fun w' d=>
  ⟨(q.below d).box.cell 0 rfl,(q.below d).look a V,(q.below d).look b Z⟩)
 have r:Hid (∀ (w':World),Below s.heap.size s w'->Calls Tryz.prog 192 #[ptrV B (Zad es a),.func (.func 193) #[] #[.pointer (some ⟨w'.heap.size,0,none⟩)]] (w'.alloc (.cells #[ptrV B (Zad es b)] 94))
   (Said ((ZaE es (Zad es a)).any (fun x=>some x == Zad es b)) (w'.alloc (.cells #[ptrV B (Zad es b)] 94)))):=Hd (fun w' d=>
  ZjJ q ac 193 _ (Zai Tryz.func193 (by kernel_rfl) rfl) _ (fun i W=>Za4 W) _ _ (Zaa d _) (fun x aq ap F=>
   Zo7 (q.below ((Zaa d _).trans (F.mono (Zaa d _).size))) x (Zad es b) ap (fun i W=>Za4 W) w'.heap.size (((Box.new w' #[ptrV B (Zad es b)] 94).below F).cell 0 rfl)))
 have g:=Hd (fun w=>Zfr b w);have c:=Hd (fun w=>Zd4 a w V);unfold Zib at c;have L:=Hd X;obtain ⟨R,z⟩:∃ R,R=subE es a b:=⟨_,rfl⟩
 rw [←z];unfold subE at z;generalize ZeI es a=ao at m z;generalize ZeI es b=am at u z;have aw:=Zae a;have ay:=Zae b;have D:=Hd z;clear z X q ac;cases ao with
 | false=>
  obtain rfl:R=false:=D.o;clear u r n g c D;go_enter Tryz.func123,Tryz.ntmps123
  go_wp2_with fail
  refine m.o.mono ?_;rintro e aa ⟨rfl,t⟩;clear m;go_wp2;go_ret;exact ⟨rfl,t⟩
 | true=>
  go_enter Tryz.func123,Tryz.ntmps123
  go_wp2_with fail
  refine m.o.mono ?_;rintro e aa ⟨rfl,t⟩;have v:=Hd t;clear t m
  go_wp2_with fail
  refine (u.o aa (L.o.trans (v.o.mono L.o.size))).mono ?_;rintro e w2 ⟨rfl,P⟩;have j:=Hd (v.o.trans (P.mono v.o.size));clear P u v;cases am with
  | false=>
   obtain rfl:R=false:=D.o;clear r n g c D;go_wp2;go_ret;exact ⟨rfl,j.o⟩
  | true=>
   have f:Hid (R=(a == b || (if a == Zdq then !ZaB b else if 0<depN a then b == objL else (ZaE es (Zad es a)).any (fun x=>some x == Zad es b)))):=Hd D.o;clear D;cases y:(a == b) with
   | true=>
    obtain rfl:R=true:=by rw [f.o,y];rfl
    clear r n g c f;go_wp2;go_ret;exact ⟨rfl,j.o⟩
   | false=>
    cases E:(a == [110,117,108,108]) with
    | true=>
     have h:R = !ZaB b:=by rw [f.o,y];unfold Zdq;rw [E];rfl
     have H:=Hd h;clear r n c f h;generalize ZaB b=p at g H
     go_wp2_with fail
     refine (g.o _).mono ?_;rintro e C ⟨rfl,rfl⟩;clear g;cases p
     all_goals
      have h:=H.o;subst h;go_wp2;go_ret;exact ⟨rfl,j.o⟩
    | false=>
     by_cases I:0<depN a
     ·have h:R=(b == objL):=by rw [f.o,y];unfold Zdq;rw [E,YaS,Yas (by decide),YaC I]
      have H:=Hd h;have ar:(0:Int)<(depN a:Int):=by omega
      clear r n g f h I
      go_wp2_with fail
      refine (c.o _).mono ?_;rintro e C ⟨rfl,l⟩;have k:=Hd (j.o.trans (l.mono j.o.size));clear l c;cases af:(b == [79,98,106,101,99,116])
      all_goals
       have h:R=_:=H.o.trans af;subst h;go_wp2;go_ret;exact ⟨rfl,k.o⟩
     ·have h:R=(ZaE es (Zad es a)).any (fun x=>some x == Zad es b):=by rw [f.o,y];unfold Zdq;rw [E,YaS,Yas (by decide),Yas I]
      have ag:depN a=0:=by omega
      rw [ag] at c;rw [←h] at r;clear g f h I ag
      go_wp2_with fail
      refine (c.o _).mono ?_;rintro e C ⟨rfl,l⟩;have k:=Hd (j.o.trans (l.mono j.o.size));have G:=Hd (L.o.trans (k.o.mono L.o.size));clear l c;obtain ⟨ak,ab,Y⟩:=n.o C G.o;have Q:=Zaa G.o (.cells #[ptrV B (Zad es b)] 94);obtain ⟨ae,U,al⟩:=n.o _ Q;clear al;have J:=Hd (r.o C G.o);clear n r Q;obtain ⟨av,T⟩:=ZdI B (Zad es a);obtain ⟨ai,N⟩:=ZdI B (Zad es b);rw [T] at ab U J;rw [N] at Y ae U J;clear T N
      go_wp2_with fail
      refine J.o.mono ?_;rintro e ax ⟨rfl,O⟩;have ad:=Hd (k.o.trans (YbN (((Yab C.heap.size C).alloc (Yac _) (.cells #[.pointer ai] 94)).trans (O.mono (by simp))) k.o.size));clear O ak ab Y ae U J;go_wp2;go_ret;exact ⟨rfl,ad.o⟩
