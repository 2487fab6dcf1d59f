/- laws -/
import Derived.Test.YtggcdinoflchjaaGreatDoorK15
import Derived.Deep.RegionHeldLaw
import Derived.Deep.RegionHeld3
import Derived.Deep.AppendLies
set_option maxRecDepth 100000
set_option maxHeartbeats 16000000
namespace Go.Proofs.YtggcdinoflchjaaGreatDoor
open Go.RowKit
theorem Box.set {w:World} {B:Nat} {cs:Array Value} {t:TypeId} (b:Box w B cs t) (a:Nat) (u:Value):Box (w.setCell ⟨B,a,none⟩ u) B (cs.setIfInBounds a u) t:=Zb5 b
theorem Box.set_ne {w:World} {B I:Nat} {cs:Array Value} {t:TypeId} (c:Box w B cs t) (a:B ≠ I) (b:Nat) (u:Value):Box (w.setCell ⟨I,b,none⟩ u) B cs t:=
 c.keep ((Yan (fun k=>k=I) w).setCell (p:=⟨I,b,none⟩) rfl u) a
theorem Box.free {w:World} {B:Nat} {cs:Array Value} {t:TypeId} (a:Box w B cs t) (b:Nat):w.frozen? ⟨B,b,none⟩=false:=by
 unfold Box at a;simp [World.frozen?,a]
theorem Box.range {w:World} {B:Nat} {cs:Array Value} {t:TypeId} (b:Box w B cs t):w.rangeAt B 0 cs.toList:=by
 intro c v a;rw [Ybc];exact b.cell c (by rw [←a];simp)
def Hit (c:Nat) (n:List UInt8) (w:World) (w':World):Prop:=∃ a,Below w.heap.size w a/\w'=a.setCell ⟨c,0,none⟩ (.string (S n))
theorem ZmA {A:Nat->Prop} {B:Nat->Nat} {E P:Nat} {es:List Ent} {r:World} (v:Tab A r E P B es) (s:Shape es) (b:List UInt8) (x:Nat) (I:x<es.length) (w:World) (c:Below r.heap.size r w) (L:b.length<=9223372036854775807)
  (f i n:Nat) (N:Value) (H:w.cell? ⟨f,0,none⟩=some (.pointer (some ⟨E,0,none⟩))) (y:w.cell? ⟨i,0,none⟩=some (.string (S b))) (J:Box w n #[N] 9) :
  Calls Tryz.prog 126 #[entV B x,.pointer (some ⟨f,0,none⟩),.pointer (some ⟨i,0,none⟩),.pointer (some ⟨n,0,none⟩)] w
   (fun e w'=>YesNo (fun w'=>subE es b (nmE es x)=true/\Hit n (nmE es x) w w') (fun w'=>subE es b (nmE es x)=false/\Below w.heap.size w w') e w'):=by
 obtain ⟨R,U,X,sv,l,g⟩:=v.ent x es[x] (Yaa I);have k:nmE es x=es[x].cls.name:=ZhJ (Yaa I);have h:Hid (∀ W,Below w.heap.size w W->W.cell? ⟨f,0,none⟩=some (.pointer (some ⟨E,0,none⟩))/\W.cell? ⟨i,0,none⟩=some (.string (S b))/\W.cell? ⟨B x,1,none⟩=some (.string (S (nmE es x)))):=Hd (fun W j=>by
  have C:=Yad (S:=fun _=>False) j;refine ⟨C.cell H id,C.cell y id,?_⟩;rw [k];exact (l.below (c.trans (j.mono c.size))).cell 1 rfl)
 have u:Hid (∀ W,Below w.heap.size w W->Calls Tryz.prog 123 #[.pointer (some ⟨E,0,none⟩),.string (S b),.string (S (nmE es x))] W (Said (subE es b (nmE es x)) W)):=Hd (fun W j=>
  ZgQ v s b (nmE es x) W (c.trans (j.mono c.size)) L (by have:=s.nmE_le x;omega))
 have F:=Hd J;have O:Below w.heap.size w w:=Yab _ _;clear g l k H y J v s c;obtain ⟨G,z,t⟩:=h.o w O;generalize subE es b (nmE es x)=p at u ⊢;generalize nmE es x=D at h u t ⊢;have Q:=Zae D;go_enter Tryz.func126,Tryz.ntmps126
 go_upto_region 1 with fail
 first
 | (go_region_held (fun W=>W.cell? ⟨f,0,none⟩=some (.pointer (some ⟨E,0,none⟩))/\W.cell? ⟨i,0,none⟩=some (.string (S b))/\W.cell? ⟨B x,1,none⟩=some (.string (S D))) ((refine h.o _ ?_;(repeat (first|(with_reducible exact Yab _ _)|(with_reducible assumption)|(with_reducible (apply Zac;rotate_left;assumption))|(with_reducible refine Zab ?_)))))
   ((go_at_call 123;(with_reducible refine (u.o _ ?_).mono ?_);(focus ((repeat (first|(with_reducible exact Yab _ _)|(with_reducible assumption)|(with_reducible (apply Zac;rotate_left;assumption))|(with_reducible refine Zab ?_)));done));rintro e q ⟨rfl,M⟩)))
 | fail
 all_goals
  have m:Below w.heap.size w q:=by (repeat (first|(with_reducible exact Yab _ _)|(with_reducible assumption)|(with_reducible (apply Zac;rotate_left;assumption))|(with_reducible refine Zab ?_)))
  have a:=Hd m;clear m M G z t;obtain ⟨G,z,t⟩:=h.o q a.o;have d:=F.o.below a.o;have T:=d.cell 0 rfl;have V:=d.free 0;clear d;cases p with
  | true=>
   go_wp2;go_ret;exact ⟨true,rfl,fun _=>⟨q,a.o,rfl⟩,(fun K=>by cases K)⟩
  | false=>
   go_wp2;go_ret;exact ⟨false,rfl,(fun K=>by cases K),fun _=>a.o⟩
def ZfA (es:List Ent) (a b:List UInt8):List UInt8:=
 if subE es a b then b else if subE es b a then a else match (Zap es (derE es a)).find? (fun x=>subE es b (nmE es x)) with
  | some x=>nmE es x
  | none=>[]
theorem Zhk {α:Type} {p:α->Bool} {l:List α} {k:Nat} {x:α} (d:l[k]? = some x) (f:∀ a i,a<k->l[a]? = some i->p i=false) (g:p x=true):l.find? p=some x:=by
 rw [List.find?_eq_some_iff_getElem];obtain ⟨h,c⟩:=Yag.1 d;exact ⟨g,k,h,c,fun a b=>by rw [f a _ b (Yaa (by omega))];rfl⟩
theorem ZpI {es:List Ent} {l:List UInt8} {i:Nat} (a:derE es l=some i):i<es.length:=by
 unfold derE at a;split at a
 ·exact Za4 a
 ·exact Za4 a
def ZqS (es:List Ent) (b:List UInt8) (L:List Nat) (w:World) (k:Nat) (w':World):Prop:=Below w.heap.size w w'/\∀ c a,c<k->L[c]? = some a->subE es b (nmE es a)=false
def ZqT (es:List Ent) (b:List UInt8) (L:List Nat) (w:World) (c:Nat) (w':World):Prop:=∃ x,L.find? (fun x=>subE es b (nmE es x))=some x/\Hit c (nmE es x) w w'
theorem Zhs {A:Nat->Prop} {B:Nat->Nat} {L H:Nat} {es:List Ent} {l:World} (v:Tab A l L H B es) (s:Shape es) (b:List UInt8) (o:Option Nat) (g:∀ i,o=some i->i<es.length) (w:World) (h:Below l.heap.size l w) (D:b.length<=9223372036854775807)
  (j n c:Nat) (t:Value) (I:w.cell? ⟨j,0,none⟩=some (.pointer (some ⟨L,0,none⟩))) (z:w.cell? ⟨n,0,none⟩=some (.string (S b))) (J:Box w c #[t] 9) :
  Calls Tryz.prog 125 #[ptrV B o,.func (.func 126) #[] #[.pointer (some ⟨j,0,none⟩),.pointer (some ⟨n,0,none⟩),.pointer (some ⟨c,0,none⟩)]] w
   (YesNo (fun w'=>∃ x,(Zap es o).find? (fun x=>subE es b (nmE es x))=some x/\Hit c (nmE es x) w w') (fun w'=>(Zap es o).find? (fun x=>subE es b (nmE es x))=none/\Below w.heap.size w w')):=by
 have u:=s.line o g;refine (ZeM v _ _ (Zap es o) o (ZqS es b (Zap es o) w) (fun _=>ZqT es b (Zap es o) w c) w (Zai Tryz.func126 (by kernel_rfl) rfl) u (fun k w' f=>h.trans (f.1.mono h.size)) ⟨Yab _ _,fun p y a=>by omega⟩ (fun k x w' r a=>?_)).mono fun e w' G=>G.mono' (fun ⟨k,_,f⟩=>f) (fun f=>?_)
 ·obtain ⟨e,F⟩:=Zbt u x (Yaf r);have g:=Yad (S:=fun _=>False) a.1;refine (ZmA v s b x (Yag.1 F).1 w' (h.trans (a.1.mono h.size)) D j n c t (g.cell I id) (g.cell z id) (J.below a.1)).mono fun e K G=>G.mono' (fun ⟨q,E,m,C⟩=>?_) (fun ⟨q,m⟩=>?_)
  ·exact ⟨x,Zhk r a.2 q,E,a.1.trans (m.mono a.1.size),C⟩
  ·refine ⟨a.1.trans (m.mono a.1.size),fun p y M d=>?_⟩;rcases YaB p k with f|f
   ·exact a.2 p y f d
   ·obtain rfl:p=k:=by omega
    have:(Zap es o)[p]? = some x:=r;rw [this] at d;rw [←Yae d];exact q
 ·refine ⟨?_,f.1⟩;rw [Ycj];intro y d;obtain ⟨p,a⟩:=YbD d;have:=f.2 p y (Yag.1 a).1 a;simp [this]
theorem ZmC {A:Nat->Prop} {B:Nat->Nat} {C aC:Nat} {es:List Ent} {h:World} (L:Tab A h C aC B es) (U:Shape es) (a b:List UInt8) (w:World) (ah:Below h.heap.size h w) (ak:a.length<=281474976710656) (aq:b.length<=281474976710656) :
  Calls Tryz.prog 58 #[.pointer (some ⟨C,0,none⟩),.string (S a),.string (S b)] w (Zca (ZfA es a b) w):=by
 have aL:∀ (am:Fn) (first V:Array Value) (w:World),(Instr.makeFunc am first V).run Tryz.prog w=.ok (.func am first V) w:=fun _ _ _ _=>rfl
 have aa:Below w.heap.size w (w.alloc (.cells #[.pointer (some ⟨C,0,none⟩)] 25)):=Zaa (Yab _ _) _;have p:Below w.heap.size w ((w.alloc (.cells #[.pointer (some ⟨C,0,none⟩)] 25)).alloc (.cells #[.string (S b)] 9)):=Zaa aa _;have d:=Hd p;have n:=Hd ((Box.new w #[.pointer (some ⟨C,0,none⟩)] 25).below (w':=(w.alloc (.cells #[.pointer (some ⟨C,0,none⟩)] 25)).alloc (.cells #[.string (S b)] 9)) (Zaa (Yab _ _) _));have q:Hid (Box ((w.alloc (.cells #[.pointer (some ⟨C,0,none⟩)] 25)).alloc (.cells #[.string (S b)] 9)) (w.heap.size+1) #[.string (S b)] 9):=Hd (by
  have aS:=Box.new (w.alloc (.cells #[.pointer (some ⟨C,0,none⟩)] 25)) #[.string (S b)] 9
  simpa using aS)
 have H:=Hd (ah.trans (p.mono ah.size));have M:Hid (∀ w',Below h.heap.size h w'->Calls Tryz.prog 123 #[.pointer (some ⟨C,0,none⟩),.string (S a),.string (S b)] w' (Said (subE es a b) w')):=Hd (fun w' ad=>ZgQ L U a b w' ad (by omega) (by omega));have O:Hid (∀ w',Below h.heap.size h w'->Calls Tryz.prog 123 #[.pointer (some ⟨C,0,none⟩),.string (S b),.string (S a)] w' (Said (subE es b a) w')):=Hd (fun w' ad=>ZgQ L U b a w' ad (by omega) (by omega));have ae:Hid (∀ w',Below h.heap.size h w'->Calls Tryz.prog 124 #[.pointer (some ⟨C,0,none⟩),.string (S a)] w' (Zpx (ptrV B (derE es a)) w')):=Hd (fun w' ad=>Ziq L a w' ad (by omega));have ai:Hid (∀ (w':World) (z F j:Nat) (ag:Value),Below h.heap.size h w'->w'.cell? ⟨z,0,none⟩=some (.pointer (some ⟨C,0,none⟩))->w'.cell? ⟨F,0,none⟩=some (.string (S b))->Box w' j #[ag] 9->
   Calls Tryz.prog 125 #[ptrV B (derE es a),.func (.func 126) #[] #[.pointer (some ⟨z,0,none⟩),.pointer (some ⟨F,0,none⟩),.pointer (some ⟨j,0,none⟩)]] w'
   (YesNo (fun J=>∃ x,(Zap es (derE es a)).find? (fun x=>subE es b (nmE es x))=some x/\Hit j (nmE es x) w' J) (fun J=>(Zap es (derE es a)).find? (fun x=>subE es b (nmE es x))=none/\Below w'.heap.size w' J))):=
  Hd (fun w' z F j ag ad aI aF aA=>Zhs L U b (derE es a) (fun i aH=>ZpI aH) w' ad (by omega) z F j ag aI aF aA)
 have ao:=Hd (fun w=>ZaF (S a) w (by rw [Zay];exact ak));have ax:=Hd (fun w=>ZaF (S b) w (by rw [Zay];exact aq));unfold Zca;obtain ⟨R,E⟩:∃ R,R=ZfA es a b:=⟨_,rfl⟩
 rw [←E];unfold ZfA at E;generalize subE es a b=aJ at M E;generalize subE es b a=aB at O E;have K:=Hd E;clear E ah L U ak aq aa p;unfold Zpx at ae;obtain ⟨aP,ab⟩:=ZdI B (derE es a);rw [ab] at ae ai;clear ab;generalize (Zap es (derE es a)).find? (fun x=>subE es b (nmE es x))=aT at ai K;go_enter Tryz.func58,Tryz.ntmps58
 go_upto_region 1 with fail
 generalize (w.alloc (.cells #[.pointer (some ⟨C,0,none⟩)] 25)).alloc (.cells #[.string (S b)] 9)=aE at d n q H ⊢;generalize w.heap.size+1=F at q ⊢;obtain ⟨z,X⟩:∃ c,c=w.heap.size:=⟨_,rfl⟩
 rw [←X] at n ⊢;clear X;have G:=n.o.cell 0 rfl;have T:=q.o.cell 0 rfl
 go_wp2_with fail
 refine (M.o aE H.o).mono ?_;rintro e w2 ⟨rfl,p⟩;have g:=Hd p;clear p G T M;have G:=(n.o.below g.o).cell 0 rfl;have T:=(q.o.below g.o).cell 0 rfl;cases aJ with
 | true=>
  obtain rfl:R=b:=K.o
  go_wp2_with fail
  refine (ax.o _).mono ?_;rintro e D ⟨rfl,t⟩;have f:=Hd (d.o.trans ((g.o.trans (t.mono g.o.size)).mono d.o.size));clear t G T;go_wp2;go_ret;exact ⟨rfl,f.o⟩
 | false=>
  have aw:=Hd (H.o.trans (g.o.mono H.o.size))
  go_wp2_with fail
  refine (O.o w2 aw.o).mono ?_;rintro e D ⟨rfl,t⟩;have f:=Hd (g.o.trans (t.mono g.o.size));clear t G T O g;cases aB with
  | true=>
   obtain rfl:R=a:=K.o
   go_wp2_with fail
   refine (ao.o _).mono ?_;rintro e aR ⟨rfl,Z⟩;have m:=Hd (d.o.trans ((f.o.trans (Z.mono f.o.size)).mono d.o.size));clear Z;go_wp2;go_ret;exact ⟨rfl,m.o⟩
  | false=>
   have ac:=Hd (H.o.trans (f.o.mono H.o.size));have y:=Zaa (Yab D.heap.size D) (.cells #[.string ⟨#[]⟩] 9);have s:=Hd (Box.new D #[.string ⟨#[]⟩] 9);have m:=Hd (f.o.trans (y.mono f.o.size));have ay:=Hd y;have v:=Hd (ac.o.trans (y.mono ac.o.size));clear y
   go_upto_region 6 with fail
   generalize D.alloc (.cells #[.string ⟨#[]⟩] 9)=aD at s m ay v ⊢;obtain ⟨j,I⟩:∃ c,c=D.heap.size:=⟨_,rfl⟩
   have ar:=Hd I;rw [←I] at s ⊢;clear I;have G:=(n.o.below m.o).cell 0 rfl
   go_wp2_with fail
   refine (ae.o aD v.o).mono ?_;rintro e az ⟨rfl,W⟩;have r:=Hd W;clear W G;have au:=Hd (v.o.trans (r.o.mono v.o.size));have l:=Hd (m.o.trans (r.o.mono m.o.size));have al:=Hd (ai.o az z F j _ au.o ((n.o.below l.o).cell 0 rfl) ((q.o.below l.o).cell 0 rfl) (s.o.below r.o))
   go_wp2_with fail
   refine al.o.mono ?_;rintro e aM ⟨aG,rfl,af,P⟩;cases aG with
   | true=>
    obtain ⟨x,Q,aj,k,rfl⟩:=af rfl;have av:R=nmE es x:=by rw [K.o,Q];rfl
    have Y:=(s.o.below r.o).below k;have ap:(aj.setCell ⟨j,0,none⟩ (.string (S (nmE es x)))).cell? ⟨j,0,none⟩=some (.string (S (nmE es x))):=(Y.set 0 (.string (S (nmE es x)))).cell 0 rfl;have u:Below w.heap.size w (aj.setCell ⟨j,0,none⟩ (.string (S (nmE es x)))):=by
     have aK:=d.o.trans ((l.o.trans (k.mono l.o.size)).mono d.o.size);have aO:=d.o.size;have aN:=f.o.size;have aQ:=ar.o;exact aK.setCell (by show w.heap.size<=j;omega) _
    rw [←av] at ap u ⊢;have N:=Hd u;clear af P Q av Y u k;go_wp2;go_ret;exact ⟨rfl,N.o⟩
   | false=>
    obtain ⟨Q,k⟩:=P rfl;obtain rfl:R=[]:=by rw [K.o,Q];rfl
    have ap:=((s.o.below r.o).below k).cell 0 rfl;have N:=Hd (d.o.trans ((l.o.trans (k.mono l.o.size)).mono d.o.size));clear af P Q k;go_wp2;go_ret;exact ⟨rfl,N.o⟩
section
variable {P:Program} {w:World}
theorem ZaY {b:Array Oper} {o:Oper} {a:Act} {l:Act->World->Prop} {p:Exit->Act->World->Prop} {n:Prop} (f:o.guard=none) (s x:Operand) (t:TypeId)
  (j:o.op=.call { callee:=.builtin .append,args:=#[s,x],argTypes:=#[t,t] }) (sv d g:Value) (w':World) (h:a.eval s=sv) (k:a.eval x=d)
  (c:(Builtin.append_ #[t,t] o.type #[sv,d]).run P w=.ok g w') (m:l (a.put o.dst g) w') :
  if Region.wanted o (yielded b a.tmps)=true then Oper.wp P o a w l p else n:=by
 have i:Region.wanted o (yielded b a.tmps)=true:=by simp [Region.wanted,f]
 rw [YaC i];unfold Oper.wp;simp only [execOp,j,resolve,invoke,builtin,Sem.run_bind,Sem.run_pure,Result.andThen_ok,List.map_toArray,YbJ,Ycr,h,k,c];exact m
theorem Zd2 (xs a:List Value):ZaM (xs++a)=ZaM xs++ZaM a:=by unfold ZaM;rw [Yce]
theorem ZbC {α:Type} {f:α->Value} {n:Nat} (H:0<n) (D:∀ x,(f x).cells.size=n) (E:∀ x,∀ u ∈ (f x).cells.toList,u.oneCell'=true) (t ty e:TypeId) (i:TypeInfo) (z:Value) (a:Nat) (K:P.underlying t=some (.slice e)) (T:P.info? e=some i)
  (ac:i.zero=some z) (p:i.size=n) (J:i.bytes=a) (N:z.cells.size=n) {A:Nat->Prop} {v sv:Value} {d l2:List α} {lo:Nat} (r:TRow n e (Flat f) lo w v d (d.map f)) (V:lo<=w.heap.size) (aa:Src n (Flat f) A w sv l2)
  (F:(d.length+l2.length) * a<=140737488355328) (af:d.length+l2.length<=9223372036854775807) :
  ∃ l w',(Builtin.append_ #[t,t] ty #[v,sv]).run P w=.ok l w'/\TRow n e (Flat f) lo w' l (d++l2) ((d++l2).map f)/\Grew w v w' l:=by
 rcases aa with ⟨Y,m,rfl,rfl⟩|⟨b,o,m,rfl,_,ad⟩
 ·exact ⟨v,w,Za5 w t ty e i n K T v _ _ r.row Y m,by rw [Ya2];exact r,Grew.refl _ _⟩
 ·have C:∀ u ∈ l2.map f,u.cells.size=n:=fun u c=>by obtain ⟨x,_,rfl⟩:=Ya6.1 c;exact D x
  have j:(ZaM (l2.map f)).length=l2.length * n:=by rw [Zcq _ C,Yaz]
  have q:∀ (h:Nat) u,(ZaM (l2.map f))[h]? = some u->w.cell? ((⟨b,o,none⟩:Addr).add h)=some u:=by
   intro h u R;have Q:h<l2.length * n:=by rw [←j];exact (Yag.1 R).1
   have L:h / n<l2.length:=(Nat.div_lt_iff_lt_mul H).2 Q;have M:h % n<n:=Nat.mod_lt _ H;have s:h=h / n * n+h % n:=by rw [Nat.mul_comm];exact (Nat.div_add_mod h n).symm
   obtain ⟨ah,U,_,W⟩:=ad (h / n) _ (Yaa L);obtain rfl:=U;have y:=ZcA (n:=n) (l2.map f) (h / n) (h % n) (f l2[h / n]) C (by rw [Yau,Yaa L];rfl) M;rw [←s,R] at y;have ag:=W (h % n) u y.symm;rw [Ybo];rw [Nat.add_assoc,←s] at ag;exact ag
  have ab:∀ u ∈ ZaM (l2.map f),u.oneCell'=true:=fun u c=>by
   unfold ZaM at c;obtain ⟨ai,Z,c⟩:=YbB.1 c;obtain ⟨x,_,rfl⟩:=Ya6.1 Z;exact E x u c
  obtain ⟨l,w',X,G,O⟩:=Zbi (P:=P) w t ty e i z n a K T ac p J N H v d.length _ r.row ⟨b,o,none⟩ l2.length m _ j q ab (by unfold maxLen;omega) F;refine ⟨l,w',X,⟨?_,fun g B=>?_,by simp,fun u c=>?_,fun k x ae=>?_⟩,O⟩
  ·rw [Ya4,Zd2,Yak];exact G
  ·rcases O.came with I|I
   ·exact r.own g (I ▸ B)
   ·exact Yaq V (I g B)
  ·obtain ⟨x,_,rfl⟩:=Ya6.1 c;exact D x
  ·exact ⟨f x,by rw [Yau,ae];rfl,rfl⟩
end
