/- laws -/
import Derived.Test.YtegljjbclladdaaGreatDoorK12
import Derived.Test.YtegljjbclladdaaGreatDoorK15
import Derived.Deep.AppendLies
import Derived.Deep.RegionHeld3
import Derived.Deep.RegionHeldLaw
set_option maxRecDepth 100000
set_option maxHeartbeats 16000000
namespace Go.Proofs.YtegljjbclladdaaGreatDoor
open Go.RowKit Tryz
theorem Box.set {w:World}{B:Nat}{cs:Array Value}{t:TypeId}(b:Box w B cs t)(a:Nat)(u:Value):Box (w.setCell ⟨B,a,none⟩ u) B (cs.setIfInBounds a u) t:=Zcf b
theorem Box.set_ne {w:World}{B I:Nat}{cs:Array Value}{t:TypeId}(c:Box w B cs t)(a:B≠I)(b:Nat)(u:Value):Box (w.setCell ⟨I,b,none⟩ u) B cs t:=
 c.keep ((Yak (fun k=>k=I) w).setCell (p:=⟨I,b,none⟩) rfl u) a
theorem Box.free {w:World}{B:Nat}{cs:Array Value}{t:TypeId}(a:Box w B cs t)(b:Nat):w.frozen? ⟨B,b,none⟩=false:=by
 unfold Box at a;simp[World.frozen?,a]
theorem Box.range {w:World}{B:Nat}{cs:Array Value}{t:TypeId}(b:Box w B cs t):w.rangeAt B 0 cs.toList:=by
 intro c v a;rw[Ya6];exact b.cell c (by rw[←a];simp)
def Hit (c:Nat)(n:List UInt8)(w:World)(w':World):Prop:=∃a,Below w.heap.size w a/\w'=a.setCell ⟨c,0,none⟩ (.string (S n))
theorem Zoy {A:Nat->Prop}{B:Nat->Nat}{z N:Nat}{es:List Ent}{u:World}(n:Tab A u z N B es)(r:Shape es)(b:List UInt8)(x:Nat)(H:x<es.length)(w:World)(c:Below u.heap.size u w)(K:b.length<=9223372036854775807)
  (j g s:Nat)(P:Value)(I:w.cell? ⟨j,0,none⟩=some (.pointer (some ⟨z,0,none⟩)))(J:w.cell? ⟨g,0,none⟩=some (.string (S b)))(G:Box w s #[P] 9) :
  Calls prog 168 #[entV B x,.pointer (some ⟨j,0,none⟩),.pointer (some ⟨g,0,none⟩),.pointer (some ⟨s,0,none⟩)] w
   (fun e w'=>YesNo (fun w'=>subE es b (nmE es x)=true/\Hit s (nmE es x) w w') (fun w'=>subE es b (nmE es x)=false/\Below w.heap.size w w') e w'):=by
 obtain⟨T,U,R,sv,m,i⟩:=n.ent x es[x] (Yaa H);have k:nmE es x=es[x].cls.name:=Zgi (Yaa H);have h:Hid (∀W,Below w.heap.size w W->W.cell? ⟨j,0,none⟩=some (.pointer (some ⟨z,0,none⟩))/\W.cell? ⟨g,0,none⟩=some (.string (S b))/\W.cell? ⟨B x,1,none⟩=some (.string (S (nmE es x)))):=Hd (fun W f=>by
  have F:=Yae (S:=fun _=>False) f;refine⟨F.cell I id,F.cell J id,?_⟩;rw[k];exact(m.below (c.trans (f.mono c.size))).cell 1 rfl)
 have v:Hid (∀W,Below w.heap.size w W->Calls prog 114 #[.pointer (some ⟨z,0,none⟩),.string (S b),.string (S (nmE es x))] W (Said (subE es b (nmE es x)) W)):=Hd (fun W f=>
  Zgv n r b (nmE es x) W (c.trans (f.mono c.size)) K (by have:=r.nmE_le x;omega))
 have C:=Hd G;have L:Below w.heap.size w w:=Yab _ _;clear i m k I J G n r c;obtain⟨D,y,t⟩:=h.o w L;generalize subE es b (nmE es x)=p at v⊢;generalize nmE es x=E at h v t⊢;have Q:=Zaf E;go_enter func168,ntmps168
 go_upto_region 1 with fail;first
 |(go_region_held (fun W=>W.cell? ⟨j,0,none⟩=some (.pointer (some ⟨z,0,none⟩))/\W.cell? ⟨g,0,none⟩=some (.string (S b))/\W.cell? ⟨B x,1,none⟩=some (.string (S E))) ((refine h.o _ ?_;(with_reducible repeat (first|exact Yab _ _|assumption|(apply Zae;rotate_left;assumption)|refine Zab ?_))))
   ((go_at_call 114;(with_reducible refine(v.o _ ?_).mono ?_);(focus ((with_reducible repeat (first|exact Yab _ _|assumption|(apply Zae;rotate_left;assumption)|refine Zab ?_));done));rintro e q⟨rfl,M⟩)))
 |fail
 all_goals
  have l:Below w.heap.size w q:=by(with_reducible repeat (first|exact Yab _ _|assumption|(apply Zae;rotate_left;assumption)|refine Zab ?_))
  have a:=Hd l;clear l M D y t;obtain⟨D,y,t⟩:=h.o q a.o;have d:=C.o.below a.o;have V:=d.cell 0 rfl;have X:=d.free 0;clear d;cases p with
  |true=>
   go_wp2;go_ret;exact⟨true,rfl,fun _=>⟨q,a.o,rfl⟩,(fun O=>by cases O)⟩
  |false=>
   go_wp2;go_ret;exact⟨false,rfl,(fun O=>by cases O),fun _=>a.o⟩
def ZgB (es:List Ent)(a b:List UInt8):List UInt8:=
 if subE es a b then b else if subE es b a then a else match (Zan es (derE es a)).find? (fun x=>subE es b (nmE es x))with
  |some x=>nmE es x
  |none=>[]
theorem ZiD {α:Type}{p:α->Bool}{l:List α}{k:Nat}{x:α}(c:l[k]?=some x)(d:∀a i,a<k->l[a]?=some i->p i=false)(b:p x=true):l.find? p=some x:=by
 rw[List.find?_eq_some_iff_getElem];obtain⟨h,f⟩:=Yag.1 c;exact⟨b,k,h,f,fun a g=>by rw[d a _ g (Yaa (by omega))];rfl⟩
theorem Zr6 {es:List Ent}{l:List UInt8}{i:Nat}(a:derE es l=some i):i<es.length:=by
 unfold derE at a;split at a
 ·exact ZaV a
 ·exact ZaV a
def Ztx (es:List Ent)(b:List UInt8)(L:List Nat)(w:World)(k:Nat)(w':World):Prop:=Below w.heap.size w w'/\∀c a,c<k->L[c]?=some a->subE es b (nmE es a)=false
def Zty (es:List Ent)(b:List UInt8)(L:List Nat)(w:World)(c:Nat)(w':World):Prop:=∃x,L.find? (fun x=>subE es b (nmE es x))=some x/\Hit c (nmE es x) w w'
theorem ZiK {A:Nat->Prop}{B:Nat->Nat}{K E:Nat}{es:List Ent}{p:World}(s:Tab A p K E B es)(t:Shape es)(b:List UInt8)(o:Option Nat)(g:∀i,o=some i->i<es.length)(w:World)(f:Below p.heap.size p w)(z:b.length<=9223372036854775807)
  (r j d:Nat)(u:Value)(H:w.cell? ⟨r,0,none⟩=some (.pointer (some ⟨K,0,none⟩)))(J:w.cell? ⟨j,0,none⟩=some (.string (S b)))(G:Box w d #[u] 9) :
  Calls prog 143 #[ptrV B o,.func (.func 168) #[] #[.pointer (some ⟨r,0,none⟩),.pointer (some ⟨j,0,none⟩),.pointer (some ⟨d,0,none⟩)]] w
   (YesNo (fun w'=>∃x,(Zan es o).find? (fun x=>subE es b (nmE es x))=some x/\Hit d (nmE es x) w w') (fun w'=>(Zan es o).find? (fun x=>subE es b (nmE es x))=none/\Below w.heap.size w w')):=by
 have v:=t.line o g;refine(Zfu s _ _ (Zan es o) o (Ztx es b (Zan es o) w) (fun _=>Zty es b (Zan es o) w d) w (Zac func168 (by kernel_rfl) rfl) v (fun k w' h=>f.trans (h.1.mono f.size)) ⟨Yab _ _,fun n y a=>by omega⟩ (fun k x w' q a=>?_)).mono fun e w' I=>I.mono' (fun⟨k,_,h⟩=>h) (fun h=>?_)
 ·obtain⟨e,F⟩:=ZbF v x (Yaf q);have g:=Yae (S:=fun _=>False) a.1;refine(Zoy s t b x (Yag.1 F).1 w' (f.trans (a.1.mono f.size)) z r j d u (g.cell H id) (g.cell J id) (G.below a.1)).mono fun e L I=>I.mono' (fun⟨l,D,m,C⟩=>?_) (fun⟨l,m⟩=>?_)
  ·exact⟨x,ZiD q a.2 l,D,a.1.trans (m.mono a.1.size),C⟩
  ·refine⟨a.1.trans (m.mono a.1.size),fun n y M c=>?_⟩;rcases YaC n k with h|h
   ·exact a.2 n y h c
   ·obtain rfl:n=k:=by omega
    have:(Zan es o)[n]?=some x:=q;rw[this]at c;rw[←Yac c];exact l
 ·refine⟨?_,h.1⟩;rw[Ycl];intro y c;obtain⟨n,a⟩:=YbF c;have:=h.2 n y (Yag.1 a).1 a;simp[this]
theorem ZoA {A:Nat->Prop}{B:Nat->Nat}{z aH:Nat}{es:List Ent}{k:World}(I:Tab A k z aH B es)(U:Shape es)(a b:List UInt8)(w:World)(ae:Below k.heap.size k w)(am:a.length<=281474976710656)(ai:b.length<=281474976710656) :
  Calls prog 99 #[.pointer (some ⟨z,0,none⟩),.string (S a),.string (S b)] w (Zcc (ZgB es a b) w):=by
 have aJ:=Ymf;have ab:Below w.heap.size w (w.alloc (.cells #[.pointer (some ⟨z,0,none⟩)] 32)):=Zaa (Yab _ _) _;have l:Below w.heap.size w ((w.alloc (.cells #[.pointer (some ⟨z,0,none⟩)] 32)).alloc (.cells #[.string (S b)] 9)):=Zaa ab _;have d:=Hd l;have p:=Hd ((Box.new w #[.pointer (some ⟨z,0,none⟩)] 32).below (w':=(w.alloc (.cells #[.pointer (some ⟨z,0,none⟩)] 32)).alloc (.cells #[.string (S b)] 9)) (Zaa (Yab _ _) _));have s:Hid (Box ((w.alloc (.cells #[.pointer (some ⟨z,0,none⟩)] 32)).alloc (.cells #[.string (S b)] 9)) (w.heap.size+1) #[.string (S b)] 9):=Hd (by
  have aP:=Box.new (w.alloc (.cells #[.pointer (some ⟨z,0,none⟩)] 32)) #[.string (S b)] 9;simpa using aP)
 have D:=Hd (ae.trans (l.mono ae.size));have O:Hid (∀w',Below k.heap.size k w'->Calls prog 114 #[.pointer (some ⟨z,0,none⟩),.string (S a),.string (S b)] w' (Said (subE es a b) w')):=Hd (fun w' ac=>Zgv I U a b w' ac (by omega) (by omega));have L:Hid (∀w',Below k.heap.size k w'->Calls prog 114 #[.pointer (some ⟨z,0,none⟩),.string (S b),.string (S a)] w' (Said (subE es b a) w')):=Hd (fun w' ac=>Zgv I U b a w' ac (by omega) (by omega));have ag:Hid (∀w',Below k.heap.size k w'->Calls prog 167 #[.pointer (some ⟨z,0,none⟩),.string (S a)] w' (ZrV (ptrV B (derE es a)) w')):=Hd (fun w' ac=>ZjM I a w' ac (by omega));have ad:Hid (∀(w':World) (F C j:Nat) (ah:Value),Below k.heap.size k w'->w'.cell? ⟨F,0,none⟩=some (.pointer (some ⟨z,0,none⟩))->w'.cell? ⟨C,0,none⟩=some (.string (S b))->Box w' j #[ah] 9->
   Calls prog 143 #[ptrV B (derE es a),.func (.func 168) #[] #[.pointer (some ⟨F,0,none⟩),.pointer (some ⟨C,0,none⟩),.pointer (some ⟨j,0,none⟩)]] w'
   (YesNo (fun J=>∃x,(Zan es (derE es a)).find? (fun x=>subE es b (nmE es x))=some x/\Hit j (nmE es x) w' J) (fun J=>(Zan es (derE es a)).find? (fun x=>subE es b (nmE es x))=none/\Below w'.heap.size w' J))):=
  Hd (fun w' F C j ah ac aG aE aD=>ZiK I U b (derE es a) (fun i ax=>Zr6 ax) w' ac (by omega) F C j ah aG aE aD)
 have aq:=Hd (fun w=>ZaE (S a) w (by rw[Zat];exact am));have av:=Hd (fun w=>ZaE (S b) w (by rw[Zat];exact ai));unfold Zcc;obtain⟨R,H⟩:∃R,R=ZgB es a b:=⟨_,rfl⟩
 rw[←H];unfold ZgB at H;generalize subE es a b=aA at O H;generalize subE es b a=aF at L H;have N:=Hd H;clear H ae I U am ai ab l;unfold ZrV at ag;obtain⟨aQ,X⟩:=Zc0 B (derE es a);rw[X]at ag ad;clear X;generalize (Zan es (derE es a)).find? (fun x=>subE es b (nmE es x))=aR at ad N;go_enter func99,ntmps99
 go_upto_region 1 with fail;generalize (w.alloc (.cells #[.pointer (some ⟨z,0,none⟩)] 32)).alloc (.cells #[.string (S b)] 9)=aI at d p s D⊢;generalize w.heap.size+1=C at s⊢;obtain⟨F,aa⟩:∃c,c=w.heap.size:=⟨_,rfl⟩
 rw[←aa]at p⊢;clear aa;have E:=p.o.cell 0 rfl;have T:=s.o.cell 0 rfl;go_wp2_with fail;refine(O.o aI D.o).mono ?_;rintro e w2⟨rfl,l⟩;have g:=Hd l;clear l E T O;have E:=(p.o.below g.o).cell 0 rfl;have T:=(s.o.below g.o).cell 0 rfl;cases aA with
 |true=>
  obtain rfl:R=b:=N.o;go_wp2_with fail;refine(av.o _).mono ?_;rintro e G⟨rfl,t⟩;have f:=Hd (d.o.trans ((g.o.trans (t.mono g.o.size)).mono d.o.size));clear t E T;go_wp2;go_ret;exact⟨rfl,f.o⟩
 |false=>
  have ao:=Hd (D.o.trans (g.o.mono D.o.size));go_wp2_with fail;refine(L.o w2 ao.o).mono ?_;rintro e G⟨rfl,t⟩;have f:=Hd (g.o.trans (t.mono g.o.size));clear t E T L g;cases aF with
  |true=>
   obtain rfl:R=a:=N.o;go_wp2_with fail;refine(aq.o _).mono ?_;rintro e aL⟨rfl,W⟩;have m:=Hd (d.o.trans ((f.o.trans (W.mono f.o.size)).mono d.o.size));clear W;go_wp2;go_ret;exact⟨rfl,m.o⟩
  |false=>
   have V:=Hd (D.o.trans (f.o.mono D.o.size));have v:=Zaa (Yab G.heap.size G) (.cells #[.string ⟨#[]⟩] 9);have q:=Hd (Box.new G #[.string ⟨#[]⟩] 9);have m:=Hd (f.o.trans (v.mono f.o.size));have aw:=Hd v;have y:=Hd (V.o.trans (v.mono V.o.size));clear v;go_upto_region 6 with fail;generalize G.alloc (.cells #[.string ⟨#[]⟩] 9)=ay at q m aw y⊢;obtain⟨j,M⟩:∃c,c=G.heap.size:=⟨_,rfl⟩
   have au:=Hd M;rw[←M]at q⊢;clear M;have E:=(p.o.below m.o).cell 0 rfl;go_wp2_with fail;refine(ag.o ay y.o).mono ?_;rintro e az⟨rfl,Z⟩;have r:=Hd Z;clear Z E;have aj:=Hd (y.o.trans (r.o.mono y.o.size));have n:=Hd (m.o.trans (r.o.mono m.o.size));have al:=Hd (ad.o az F C j _ aj.o ((p.o.below n.o).cell 0 rfl) ((s.o.below n.o).cell 0 rfl) (q.o.below r.o));go_wp2_with fail;refine al.o.mono ?_;rintro e aM⟨aC,rfl,af,Q⟩;cases aC with
   |true=>
    obtain⟨x,P,ap,h,rfl⟩:=af rfl;have ak:R=nmE es x:=by rw[N.o,P];rfl
    have Y:=(q.o.below r.o).below h;have ar:(ap.setCell ⟨j,0,none⟩ (.string (S (nmE es x)))).cell? ⟨j,0,none⟩=some (.string (S (nmE es x))):=(Y.set 0 (.string (S (nmE es x)))).cell 0 rfl;have u:Below w.heap.size w (ap.setCell ⟨j,0,none⟩ (.string (S (nmE es x)))):=by
     have aB:=d.o.trans ((n.o.trans (h.mono n.o.size)).mono d.o.size);have aO:=d.o.size;have aK:=f.o.size;have aN:=au.o;exact aB.setCell (by show w.heap.size<=j;omega) _
    rw[←ak]at ar u⊢;have K:=Hd u;clear af Q P ak Y u h;go_wp2;go_ret;exact⟨rfl,K.o⟩
   |false=>
    obtain⟨P,h⟩:=Q rfl;obtain rfl:R=[]:=by rw[N.o,P];rfl
    have ar:=((q.o.below r.o).below h).cell 0 rfl;have K:=Hd (d.o.trans ((n.o.trans (h.mono n.o.size)).mono d.o.size));clear af Q P h;go_wp2;go_ret;exact⟨rfl,K.o⟩
section
variable {P:Program}{w:World}
theorem ZaK {b:Array Oper}{o:Oper}{a:Act}{l:Act->World->Prop}{m:Exit->Act->World->Prop}{n:Prop}(g:o.guard=none)(s x:Operand)(t:TypeId)
  (j:o.op=.call { callee:=.builtin .append,args:=#[s,x],argTypes:=#[t,t] })(sv d f:Value)(w':World)(i:a.eval s=sv)(h:a.eval x=d)
  (c:(Builtin.append_ #[t,t] o.type #[sv,d]).run P w=.ok f w')(p:l (a.put o.dst f) w') :
  if Region.wanted o (yielded b a.tmps)=true then Oper.wp P o a w l m else n:=by
 have k:Region.wanted o (yielded b a.tmps)=true:=by simp[Region.wanted,g]
 rw[Yay k];unfold Oper.wp;simp only[execOp,j,resolve,invoke,builtin,Sem.run_bind,Sem.run_pure,Result.andThen_ok,List.map_toArray,YbI,Ycu,i,h,c];exact p
theorem ZeA (xs a:List Value):ZaO (xs++a)=ZaO xs++ZaO a:=by unfold ZaO;rw[Yci]
theorem Zbu {α:Type}{f:α->Value}{n:Nat}(F:0<n)(r:∀x,(f x).cells.size=n)(H:∀x,∀u∈(f x).cells.toList,u.oneCell'=true)(t ty e:TypeId)(i:TypeInfo)(z:Value)(a:Nat)(L:P.underlying t=some (.slice e))(O:P.info? e=some i)
  (W:i.zero=some z)(p:i.size=n)(I:i.bytes=a)(R:z.cells.size=n){A:Nat->Prop}{v sv:Value}{l1 l2:List α}{lo:Nat}(m:TRow n e (Flat f) lo w v l1 (l1.map f))(T:lo<=w.heap.size)(ad:Src n (Flat f) A w sv l2)
  (D:(l1.length+l2.length)*a<=140737488355328)(ae:l1.length+l2.length<=9223372036854775807) :
  ∃h w',(Builtin.append_ #[t,t] ty #[v,sv]).run P w=.ok h w'/\TRow n e (Flat f) lo w' h (l1++l2) ((l1++l2).map f)/\Grew w v w' h:=by
 rcases ad with⟨ac,j,rfl,rfl⟩|⟨b,o,j,rfl,_,aa⟩
 ·exact⟨v,w,Zbf w t ty e i n L O v _ _ m.row ac j,by rw[YaN];exact m,Grew.refl _ _⟩
 ·have y:∀u∈l2.map f,u.cells.size=n:=fun u c=>by obtain⟨x,_,rfl⟩:=Ya2.1 c;exact r x
  have l:(ZaO (l2.map f)).length=l2.length*n:=by rw[ZcE _ y,YaB]
  have q:∀(d:Nat) u,(ZaO (l2.map f))[d]?=some u->w.cell? ((⟨b,o,none⟩:Addr).add d)=some u:=by
   intro d u V;have Q:d<l2.length*n:=by rw[←l];exact(Yag.1 V).1
   have N:d/n<l2.length:=(Nat.div_lt_iff_lt_mul F).2 Q;have J:d%n<n:=Nat.mod_lt _ F;have s:d=d/n*n+d%n:=by rw[Nat.mul_comm];exact(Nat.div_add_mod d n).symm
   obtain⟨ag,M,_,U⟩:=aa (d/n) _ (Yaa N);obtain rfl:=M;have C:=ZcP (n:=n) (l2.map f) (d/n) (d%n) (f l2[d/n]) y (by rw[Yav,Yaa N];rfl) J;rw[←s,V]at C;have af:=U (d%n) u C.symm;rw[Ybn];rw[Nat.add_assoc,←s]at af;exact af
  have Y:∀u∈ZaO (l2.map f),u.oneCell'=true:=fun u c=>by
   unfold ZaO at c;obtain⟨ah,X,c⟩:=YbD.1 c;obtain⟨x,_,rfl⟩:=Ya2.1 X;exact H x u c
  obtain⟨h,w',Z,G,K⟩:=Zbw (P:=P) w t ty e i z n a L O W p I R F v l1.length _ m.row ⟨b,o,none⟩ l2.length j _ l q Y (by unfold maxLen;omega) D;refine⟨h,w',Z,⟨?_,fun g B=>?_,by simp,fun u c=>?_,fun k x ab=>?_⟩,K⟩
  ·rw[Ya9,ZeA,Yal];exact G
  ·rcases K.came with E|E
   ·exact m.own g (E▸B)
   ·exact Yaj T (E g B)
  ·obtain⟨x,_,rfl⟩:=Ya2.1 c;exact r x
  ·exact⟨f x,by rw[Yav,ab];rfl,rfl⟩
end
