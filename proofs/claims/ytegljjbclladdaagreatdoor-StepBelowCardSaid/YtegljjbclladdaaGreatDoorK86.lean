/- laws -/
import Derived.Test.YtegljjbclladdaaGreatDoorK84
set_option maxRecDepth 100000
set_option maxHeartbeats 16000000
namespace Go.Proofs.YtegljjbclladdaaGreatDoor
open Go.RowKit Proofs.Tryz
theorem Zqw:Zbd []=[]:=by decide +kernel
theorem Zeo (b:Nat)(w:World):Calls prog 112 #[.pointer (some ⟨b,0,none⟩)] w (fun e w'=>∃c,e=.returned (.func (.func 176) #[] #[.pointer (some ⟨c,0,none⟩)])/\Box w' c #[.pointer (some ⟨b,0,none⟩)] 116/\w.heap.size<=c/\Below w.heap.size w w'):=by
 have a:=Ymf;go_enter func112,ntmps112;go_wp2;go_ret;exact⟨w.heap.size,rfl,Box.new w _ _,Yad _,Zaa (Yab _ _) _⟩
theorem Zif (b c:Nat)(s O:List UInt8)(w:World)(N:s.length<=9223372036854775807)(F:Box w b #[.string (S O)] 9)(I:w.cell? ⟨c,0,none⟩=some (.pointer (some ⟨b,0,none⟩))) :
  Calls prog 176 #[.string (S s),.pointer (some ⟨c,0,none⟩)] w (fun e w'=>e=.returned (.bool (!(Zbd s==[])))/\Box w' b #[.string (S (Zbd s))] 9/\Only (fun i=>i=b) w w'):=by
 have E:¬c=b:=fun e=>by
  have Q:=F.cell 0 rfl;rw[←e,I]at Q;cases Q
 have D:=Hd E;have j:Hid (∀args w,(callFunc 177 args).run prog w=.ok (.enter 177 args) w):=Hd (Zac func177 (by kernel_rfl) rfl);have d:=Hd (ZkN s w.drew N);unfold Zcc at d;generalize Zbd s=z at d⊢;have H:w.drew.cell? ⟨c,0,none⟩=some (.pointer (some ⟨b,0,none⟩)):=I;have g:Box w.drew b #[.string (S O)] 9:=F;have M:=g.cell 0 rfl;have B:Hid (∀V,Below w.drew.heap.size w.drew V->V.cell? ⟨c,0,none⟩=some (.pointer (some ⟨b,0,none⟩))/\V.cell? ⟨b,0,none⟩=some (.string (S O))/\V.frozen? ⟨b,0,none⟩=false/\Box V b #[.string (S O)] 9):=Hd (fun V C=>
  ⟨(Yae (S:=fun _=>False) C).cell H id,(g.below C).cell 0 rfl,(g.below C).free 0,g.below C⟩)
 clear F I E g N;by_cases l:z=[]
 ·have r:(!(z==[]))=false:=by rw[l];rfl
  have k:S z=⟨#[]⟩:=by rw[l];rfl
  have L:=Hd k;have y:=Hd (d.o.mono (R':=fun e w'=>∃v,e=.returned v/\(v=.string ⟨#[]⟩/\Below w.drew.heap.size w.drew w')) (fun e w' ⟨m,u⟩=>⟨_,by rw[k]at m;exact m,rfl,u⟩));clear d l k;go_enter func176,ntmps176
  go_upto_region 1 with fail
  (go_region_law (refine Zcu (by rfl) 177 #[.tmp 5] #[9] (by rfl) #[.string (S s)] (by rfl) (j.o _ _) y.o ?_;rintro P h⟨rfl,a⟩;obtain⟨n,K,G,t⟩:=B.o h a))
  all_goals
   have A:=Hd a;have x:=Hd t;clear H M a t K B y j;have J:Hid (Only (fun i=>i=b) w (h.setCell ⟨b,0,none⟩ (.string ⟨#[]⟩))):=Hd ((((Yak (fun i=>i=b) w).drew).trans (Yae A.o)).setCell (p:=⟨b,0,none⟩) rfl _);have f:=Hd (x.o.set 0 (.string ⟨#[]⟩));have q:=(Yak (fun i=>i=b) h).setCell (p:=⟨b,0,none⟩) rfl (.string ⟨#[]⟩);have m:=q.cell n D.o;have u:=f.o.cell 0 rfl;clear q n G;go_wp2;go_ret;exact⟨by rw[r];rfl,by rw[L.o];exact f.o,J.o⟩
 ·have r:(!(z==[]))=true:=by rw[Yah.2 l];rfl
  have k:z.isEmpty=false:=by
   cases z with
   |nil=>exact absurd rfl l
   |cons _ _=>rfl
  have R:=Zaf z;have y:=Hd (d.o.mono (R':=fun e w'=>∃v,e=.returned v/\(v=.string (S z)/\Below w.drew.heap.size w.drew w')) (fun e w' ⟨m,u⟩=>⟨_,m,rfl,u⟩));clear d l;go_enter func176,ntmps176
  go_upto_region 1 with fail
  (go_region_law (refine Zcu (by rfl) 177 #[.tmp 5] #[9] (by rfl) #[.string (S s)] (by rfl) (j.o _ _) y.o ?_;rintro P h⟨rfl,a⟩;obtain⟨n,K,G,t⟩:=B.o h a))
  all_goals
   have A:=Hd a;have x:=Hd t;clear H M a t K B y j;have J:Hid (Only (fun i=>i=b) w (h.setCell ⟨b,0,none⟩ (.string (S z)))):=Hd ((((Yak (fun i=>i=b) w).drew).trans (Yae A.o)).setCell (p:=⟨b,0,none⟩) rfl _);have f:=Hd (x.o.set 0 (.string (S z)));have q:=(Yak (fun i=>i=b) h).setCell (p:=⟨b,0,none⟩) rfl (.string (S z));have m:=q.cell n D.o;have u:=f.o.cell 0 rfl;clear q n G;go_wp2;go_ret;exact⟨by rw[r];rfl,f.o,J.o⟩
theorem Zrk {A:Nat->Prop}{B:Nat->Nat}{k y:Nat}{es:List Ent}{g:World}(l:Tab A g k y B es)(n:Shape es)(i a v:Nat)(s c:List UInt8)(w:World)(d:Below g.heap.size g w)(t:s.length<=9223372036854775807)(p:c.length<=9223372036854775807)
  (m:w.cell? ⟨a,0,none⟩=some (.pointer (some ⟨i,0,none⟩)))(q:w.cell? ⟨v,0,none⟩=some (.string (S c)))(j:w.cell? ⟨i,0,none⟩=some (.pointer (some ⟨k,0,none⟩))) :
  Calls prog 113 #[.string (S s),.pointer (some ⟨a,0,none⟩),.pointer (some ⟨v,0,none⟩)] w (Said (subE es s c) w):=by
 have u:Hid (∀V,Below w.heap.size w V->Calls prog 114 #[.pointer (some ⟨k,0,none⟩),.string (S s),.string (S c)] V (Said (subE es s c) V)):=Hd (fun V h=>Zgv l n s c V (d.trans (h.mono d.size)) t p);have z:Hid (∀V,Below w.heap.size w V->V.cell? ⟨a,0,none⟩=some (.pointer (some ⟨i,0,none⟩))/\V.cell? ⟨v,0,none⟩=some (.string (S c))/\V.cell? ⟨i,0,none⟩=some (.pointer (some ⟨k,0,none⟩))):=Hd (fun V h=>by
  have f:=Yae (S:=fun _=>False) h;exact⟨f.cell m id,f.cell q id,f.cell j id⟩)
 unfold Said at u⊢;clear l n d t p;go_enter func113,ntmps113
 go_upto_region 1 with fail;first
 |(go_region_held (fun V=>V.cell? ⟨a,0,none⟩=some (.pointer (some ⟨i,0,none⟩))/\V.cell? ⟨v,0,none⟩=some (.string (S c))/\V.cell? ⟨i,0,none⟩=some (.pointer (some ⟨k,0,none⟩))) ((refine z.o _ ?_;(with_reducible repeat (first|exact Yab _ _|assumption|(apply Zae;rotate_left;assumption)|refine Zab ?_))))
   ((go_at_call 114;(with_reducible refine(u.o _ ?_).mono ?_);(focus ((with_reducible repeat (first|exact Yab _ _|assumption|(apply Zae;rotate_left;assumption)|refine Zab ?_));done));rintro e x⟨rfl,a⟩)))
 |fail
 all_goals
  have b:Below w.heap.size w x:=by(with_reducible repeat (first|exact Yab _ _|assumption|(apply Zae;rotate_left;assumption)|refine Zab ?_))
  have r:=Hd b;clear b j m q;go_wp2;go_ret;exact⟨rfl,r.o⟩
def arrB (es:List Ent)(t:List (List UInt8)):Nat->Bool
 |0=>!(Zbd (t.getD 0 [])==[])
 |1=>subE es (t.getD 1 []) intL
 |_=>subE es (t.getD 2 []) (Zbd (t.getD 0 []))
def Ztp (es:List Ent):OpM:=⟨fun _=>0,1,arrB es,fun _ _=>[intL],none⟩
def atO (es:List Ent):OpM:=⟨fun _=>0,2,arrB es,fun t _=>[Zbd (t.getD 0 [])],none⟩
def setO (es:List Ent):OpM:=⟨fun _=>0,3,arrB es,fun _ _=>[],none⟩
structure ArrI (w0:World) (T X E c b1:Nat) (u:Bool) (l:List (Nat×Nat×List UInt8)) (el:List UInt8) (i:Nat) (V:World):Prop where
 st:Stands w0 T X l V
 elem:Box V E #[.string (S (if i=0 then[]else el))] 9
 cap:V.cell? ⟨c,0,none⟩=some (.pointer (some ⟨E,0,none⟩))
 cap2:u=true->V.cell? ⟨b1,0,none⟩=some (.pointer (some ⟨X,0,none⟩))
 n1:E≠X
 n2:c≠X
 n3:u=true->b1≠X/\b1≠E
 n4:∀c1 c2 o,(c1,c2,o)∈l->c1≠E/\c2≠E
 n5:c≠E
 lo:w0.heap.size<=E
theorem ArrI.below {f:World}{j m k c h:Nat}{u:Bool}{l:List (Nat×Nat×List UInt8)}{d:List UInt8}{i:Nat}{V g:World}(a:ArrI f j m k c h u l d i V)(b:Below V.heap.size V g):ArrI f j m k c h u l d i g:=
 ⟨a.st.below b,a.elem.below b,(Yae (S:=fun _=>False) b).cell a.cap id,fun n=>(Yae (S:=fun _=>False) b).cell (a.cap2 n) id,a.n1,a.n2,a.n3,a.n4,a.n5,a.lo⟩
theorem ArrI.set {d:World}{q b r c j:Nat}{u:Bool}{l:List (Nat×Nat×List UInt8)}{g:List UInt8}{i:Nat}{V:World}(a:ArrI d q b r c j u l g i V)(m:d.heap.size<=b)(h:Nat)(k:h≠0)(v:Value):ArrI d q b r c j u l g i (V.setCell ⟨b,h,none⟩ v):=
 have f:Only (fun i=>i=b) V (V.setCell ⟨b,h,none⟩ v):=(Yak (fun i=>i=b) V).setCell (p:=⟨b,h,none⟩) rfl v
 ⟨a.st.set m h k v,a.elem.keep f a.n1,f.cell a.cap a.n2,fun n=>f.cell (a.cap2 n) (a.n3 n).1,a.n1,a.n2,a.n3,a.n4,a.n5,a.lo⟩
theorem ArrI.step {m:World}{y A p c g:Nat}{u:Bool}{l:List (Nat×Nat×List UInt8)}{d:List UInt8}{i:Nat}{V f:World}(a:ArrI m y A p c g u l d i V)(b:Only (fun k=>k=p) V f)(q:Box f p #[.string (S d)] 9):ArrI m y A p c g u l d (i+1) f:=
 ⟨⟨a.st.bel.trans (b.below a.st.bel.size (fun k e=>by rw[e];exact a.lo)),b.cell a.st.tab (fun e=>a.n1 e.symm),fun n j o h=>by
  obtain⟨s,w,v,t⟩:=a.st.box n j o h;obtain⟨r,x⟩:=a.n4 n j o h;exact⟨s,w,v.keep b r,t.keep b x⟩⟩,by rw[Yar (by omega)];exact q,b.cell a.cap a.n5,fun z=>b.cell (a.cap2 z) (a.n3 z).2,a.n1,a.n2,a.n3,a.n4,a.n5,a.lo⟩
def Zns (f c b a d:Nat):List Zln:=[⟨176,#[],#[.pointer (some ⟨c,0,none⟩)]⟩,subT (b,a,intL),⟨113,#[],#[.pointer (some ⟨d,0,none⟩),.pointer (some ⟨f,0,none⟩)]⟩]
theorem ZjB {g c b d f:Nat}:∀t∈Zns g c b d f,∀args w,(callFunc t.F args).run prog w=.ok (.enter t.F args) w:=by
 intro t a;simp only[Zns,Yai,Yat,or_false]at a;rcases a with rfl|rfl|rfl
 ·exact Zac func176 (by kernel_rfl) rfl
 ·exact Zac func169 (by kernel_rfl) rfl
 ·exact Zac func113 (by kernel_rfl) rfl
theorem ZnZ (s:List UInt8):(Zbd s).length<=s.length:=by
 unfold Zbd;split
 ·rw[YaA];omega
 ·simp
theorem Zqv (s:List UInt8)(a:s.length<=9223372036854775807):(Zbd s).length<=9223372036854775807:=Yaj (ZnZ s) a
theorem Zev {A:Nat->Prop}{B:Nat->Nat}{aj ao:Nat}{es:List Ent}{y:World}(Y:Tab A y aj ao B es)(ad:Shape es){O lo:Nat}{p:Nat->Option Value}{r W:World}{stk loc:List (List UInt8)}{er:Nat}(P:StW O lo p y r stk loc er)(T:Below r.heap.size r W)(U:stk.length<=1048576)(I aa m w c h g q:Nat)(u:Bool)(l:List (Nat×Nat×List UInt8))(Z:1<=m)(aB:m<=3)(af:2<=m->(h,g,intL)∈l)(ar:3<=m->u=true)
  (ag:∀i t,((Zns w c h g q).take m)[i]?=some t->W.cell? ⟨I,i,none⟩=some (.func (.func t.F) t.first t.caps))(ah:r.heap.size<=I)(av:∀f,ArrI y aj O w c q u l f 0 W)(ak:r.heap.size<=w/\w≠I/\w<W.heap.size)(ab:∀x∈stk,x.length<=9223372036854775807) :
  Calls prog 103 #[.pointer (some ⟨O,0,none⟩),.slice (some ⟨I,0,none⟩) m aa] W (Tk7G r.heap.size (fun k=>k=w) O lo p y m (arrB es) stk loc er (fun V=>Box V w #[.string (S (Zbd ((stk.drop (stk.length-m)).getD 0 [])))] 9) W):=by
 have M:y.heap.size<=O:=Yaj P.lo2 P.lo3;have d:((Zns w c h g q).take m).length=m:=by rw[YaA];show min m 3=m;omega
 obtain⟨f,n⟩:∃f,f=Zbd ((stk.drop (stk.length-m)).getD 0 []):=⟨_,rfl⟩
 have aC:=Zh3 P T U I aa m ((Zns w c h g q).take m) (arrB es) (fun i V=>ArrI y aj O w c q u l f i V) (fun k=>k=w) d.symm (by rw[d];exact Z) (by rw[d];omega) ag ah (fun t ht=>ZjB t (Ybg ht)) (av f)
  (fun _ V J a ai=>a.below ai) (fun _ V v a=>⟨a.set M 13 (by decide) v,a.set M 11 (by decide) v⟩) (fun ac i t s ht z V a=>?_) (fun k ae=>by subst ae;exact ak)
 ·rw[←n];exact aC.mono (fun e J ⟨aq,j,b,K,ay,ax⟩=>⟨aq,j,b,K,fun al=>by have:=(ay al).elem;rw[Yar (by omega)]at this;exact this,ax⟩)
 ·rw[d]at z ac⊢;have ap:i<m:=by have:=(Yag.1 ht).1;rw[d]at this;exact this
  rw[Ycp ap]at ht;have D:∀au R,stk[stk.length-m+au]?=some R->(stk.drop (stk.length-m)).getD au []=R:=fun au R aA=>by rw[Yap,Ybo,aA];rfl
  have G:=ab s (Yaf z)
  match i,ht with
  |0,ht=>
   obtain rfl:=Yac ht;have H:=Zif w c s [] V G (by have:=a.elem;rw[Yay rfl]at this;exact this) a.cap;have E:arrB es (stk.drop (stk.length-m)) 0 = !(Zbd s==[]):=by show(!(Zbd ((stk.drop (stk.length-m)).getD 0 [])==[]))=_;rw[D 0 s z]
   rw[E];refine H.mono (fun e J ⟨j,b,K⟩=>⟨j,a.step K ?_,K⟩);rw[n,D 0 s z];exact b
  |1,ht=>
   obtain rfl:=Yac ht;obtain⟨_,_,am,aw⟩:=a.st.box h g intL (af (by omega));have H:=Zgu Y ad O h g intL s V a.st.bel (by decide) G (am.cell 0 rfl) (aw.cell 0 rfl) a.st.tab;have E:arrB es (stk.drop (stk.length-m)) 1=subE es s intL:=by show subE es ((stk.drop (stk.length-m)).getD 1 []) intL=_;rw[D 1 s z]
   rw[E];have az:((subT (h,g,intL)).first.push (Value.string (S s))++(subT (h,g,intL)).caps)=#[.string (S s),.pointer (some ⟨h,0,none⟩),.pointer (some ⟨g,0,none⟩)]:=by simp[subT]
   rw[az];exact H.mono (fun e J ⟨j,b⟩=>⟨j,(a.step (Yae b) (by have:=(a.below b).elem;rw[Yar (by decide)]at this;exact this)),Yae b⟩)
  |2,ht=>
   obtain rfl:=Yac ht;have X:=ar (by omega);have L:=a.elem;rw[Yar (by decide)]at L;obtain⟨C,N⟩:∃C,stk[stk.length-m+0]?=some C:=⟨_,Yaa (by omega)⟩
   have Q:f=Zbd C:=by rw[n,D 0 C N]
   have H:=Zrk Y ad O q w s f V a.st.bel G (by rw[Q];exact Zqv C (ab C (Yaf N))) (a.cap2 X) (L.cell 0 rfl) a.st.tab;have E:arrB es (stk.drop (stk.length-m)) 2=subE es s f:=by show subE es ((stk.drop (stk.length-m)).getD 2 []) (Zbd ((stk.drop (stk.length-m)).getD 0 []))=_;rw[D 2 s z,←n]
   rw[E];exact H.mono (fun e J ⟨j,b⟩=>⟨j,(a.step (Yae b) (by have:=(a.below b).elem;rw[Yar (by decide)]at this;exact this)),Yae b⟩)
theorem Zrm {A:Nat->Prop}{B:Nat->Nat}{ak aq:Nat}{es:List Ent}{l:World}(K:Tab A l ak aq B es)(ab:Shape es){y lo:Nat}{p:Nat->Option Value}(O:p 0=some (.pointer (some ⟨ak,0,none⟩))){W:World}{stk loc:List (List UInt8)}(aC:StW y lo p l W stk loc 0)(aj:stk.length<=1000)(aa:∀x∈stk,x.length<=1000000) :
  Calls prog 67 #[.pointer (some ⟨y,0,none⟩)] W (OpG y lo p l (Ztp es) stk loc W):=by
 have Y:Hid (∀V,Calls prog 106 #[.pointer (some ⟨y,0,none⟩),.string ⟨#[105,110,116]⟩] V (SubG y intL V)):=Hd (fun V=>ZaT y intL V);unfold SubG at Y;have d:=Hd aC;have ap:=Hd K;have ar:=Hd ab;have ac:=Hd aj;have ax:=Hd aa;have am:=Hd O;have C:Below W.heap.size W (W.alloc (.cells #[.string ⟨#[]⟩] 9)):=Zaa (Yab _ _) _;have f:=Box.new W #[.string ⟨#[]⟩] 9;have m:(W.alloc (.cells #[.string ⟨#[]⟩] 9)).heap.size=W.heap.size+1:=by simp
 obtain⟨k,j⟩:∃V,V=W.alloc (.cells #[.string ⟨#[]⟩] 9):=⟨_,rfl⟩
 rw[←j]at C f m;have ay:=Hd (Zeo W.heap.size k);clear K ab aC aj aa O;go_enter func67,ntmps67
 go_upto_region 1 with fail;rw[←j];clear j;have R:=Hd C;have v:=Hd f;have J:=Hd m;clear C f m;go_wp2_with fail;with_reducible refine ay.o.mono ?_
 rintro e a⟨c,rfl,M,av,D⟩;have s:Below k.heap.size k a:=D;have q:Below a.heap.size a (a.alloc (.cells #[.func (.func 176) #[] #[.pointer (some ⟨c,0,none⟩)]] 107)):=Zaa (Yab _ _) _;have Z:=Box.new a #[.func (.func 176) #[] #[.pointer (some ⟨c,0,none⟩)]] 107;have r:Below k.heap.size k (a.alloc (.cells #[.func (.func 176) #[] #[.pointer (some ⟨c,0,none⟩)]] 107)):=s.trans (q.mono s.size);have g:Below W.heap.size W (a.alloc (.cells #[.func (.func 176) #[] #[.pointer (some ⟨c,0,none⟩)]] 107)):=R.o.trans (r.mono R.o.size);have U:=d.o.lt;have X:=J.o;have ah:=d.o.bel.size;have af:=D.size;have L:=s.size;have ag:=q.size;have b:Stands l ak y [] (a.alloc (.cells #[.func (.func 176) #[] #[.pointer (some ⟨c,0,none⟩)]] 107)):=⟨d.o.bel.trans (g.mono d.o.bel.size),(Yae (S:=fun _=>False) g).cell (d.o.cell 0 (by decide) am.o) id,fun aA au o E=>by
  cases E⟩
 have ad:∀H,ArrI l ak y W.heap.size c 0 false [] H 0 (a.alloc (.cells #[.func (.func 176) #[] #[.pointer (some ⟨c,0,none⟩)]] 107)):=fun H=>⟨b,by rw[Yay rfl];exact v.o.below r,(M.below q).cell 0 rfl,fun ai=>(by cases ai),by omega,by omega,fun ai=>(by cases ai),(fun aA au o E=>by cases E),by omega,by omega⟩
 have h:=Hd (Zev ap.o ar.o d.o g (by have:=ac.o;omega) a.heap.size 1 1 W.heap.size c 0 0 0 false [] (by decide) (by decide) (fun ai=>by omega) (fun ai=>by omega) (fun i t hq=>by
   match i,hq with
   |0,hq=>obtain rfl:=Yac hq;exact Z.cell 0 rfl
   |i+1,hq=>cases hq) (by omega) ad ⟨Yad _,by omega,by omega⟩ (fun z al=>by have:=ax.o z al;omega))
 have I:=Hd (g.mono d.o.lo1);have aB:=Hd (v.o.below r);unfold Tk7G at h;clear M av D  s q Z r g b U ad X ah af L ag;go_wp2_with fail;with_reducible refine h.o.mono ?_
 rintro e az⟨aD,rfl,_,b,ao,u,_,_,_,_,_,_,P⟩;have T:=Hd (b az (Yak _ _));have ae:=Hd (I.o.trans u);clear b ao u P h;have w:=Hd (ZaY (n:=1) T.o [intL] #[.string ⟨#[105,110,116]⟩] rfl rfl (by simp) (by have F:=ac.o;have G:=Zbh 1 stk 0;omega) (fun aF N=>by simp only[Yai,Yat,or_false]at N;subst N;decide) 9);go_wp2_with fail;refine w.o.mono ?_;rintro e aE⟨rfl,F,G⟩;have aw:=Hd F;have Q:=Hd (ae.o.trans G);clear F G w;go_wp2;go_end0
 exact⟨rfl,aw.o,Q.o⟩
theorem ZsY {A:Nat->Prop}{B:Nat->Nat}{aC aQ:Nat}{es:List Ent}{v:World}(Y:Tab A v aC aQ B es)(ai:Shape es){I lo:Nat}{p:Nat->Option Value}(au:p 0=some (.pointer (some ⟨aC,0,none⟩))){W:World}{stk loc:List (List UInt8)}(aR:StW I lo p v W stk loc 0)(ao:stk.length<=1000)(aw:∀x∈stk,x.length<=1000000) :
  Calls prog 65 #[.pointer (some ⟨I,0,none⟩)] W (OpG I lo p v (atO es) stk loc W):=by
 have L:Hid (∀V,Calls prog 106 #[.pointer (some ⟨I,0,none⟩),.string ⟨#[105,110,116]⟩] V (SubG I intL V)):=Hd (fun V=>ZaT I intL V);unfold SubG at L;have j:=Hd aR;have aK:=Hd Y;have aD:=Hd ai;have aj:=Hd ao;have ac:=Hd aw;have aP:=Hd au;have R:Below W.heap.size W (W.alloc (.cells #[.string ⟨#[]⟩] 9)):=Zaa (Yab _ _) _;have q:=Box.new W #[.string ⟨#[]⟩] 9;have w:(W.alloc (.cells #[.string ⟨#[]⟩] 9)).heap.size=W.heap.size+1:=by simp
 obtain⟨m,s⟩:∃V,V=W.alloc (.cells #[.string ⟨#[]⟩] 9):=⟨_,rfl⟩
 rw[←s]at R q w;have aO:=Hd (Zeo W.heap.size m);clear Y ai aR ao aw au;go_enter func65,ntmps65
 go_upto_region 1 with fail;rw[←s];clear s;have Z:=Hd R;have H:=Hd q;have X:=Hd w;clear R q w;go_wp2_with fail;with_reducible refine aO.o.mono ?_
 rintro e aH⟨c,rfl,af,aF,C⟩;go_wp2_with fail;with_reducible refine(L.o aH).mono ?_
 rintro e b⟨f,d,rfl,am,ah,aJ,aG,N⟩;have D:Below m.heap.size m b:=C.trans (N.mono C.size);have k:Below b.heap.size b (b.alloc (.cells #[.func (.func 176) #[] #[.pointer (some ⟨c,0,none⟩)],.func (.func 169) #[] #[.pointer (some ⟨f,0,none⟩),.pointer (some ⟨d,0,none⟩)]] 107)):=Zaa (Yab _ _) _;have Q:=Box.new b #[.func (.func 176) #[] #[.pointer (some ⟨c,0,none⟩)],.func (.func 169) #[] #[.pointer (some ⟨f,0,none⟩),.pointer (some ⟨d,0,none⟩)]] 107;have y:Below m.heap.size m (b.alloc (.cells #[.func (.func 176) #[] #[.pointer (some ⟨c,0,none⟩)],.func (.func 169) #[] #[.pointer (some ⟨f,0,none⟩),.pointer (some ⟨d,0,none⟩)]] 107)):=D.trans (k.mono D.size);have r:Below W.heap.size W (b.alloc (.cells #[.func (.func 176) #[] #[.pointer (some ⟨c,0,none⟩)],.func (.func 169) #[] #[.pointer (some ⟨f,0,none⟩),.pointer (some ⟨d,0,none⟩)]] 107)):=Z.o.trans (y.mono Z.o.size);have aa:=j.o.lt;have ab:=X.o;have az:=j.o.bel.size;have aB:=C.size;have aq:=D.size;have ak:=k.size;have g:Stands v aC I [(f,d,intL)] (b.alloc (.cells #[.func (.func 176) #[] #[.pointer (some ⟨c,0,none⟩)],.func (.func 169) #[] #[.pointer (some ⟨f,0,none⟩),.pointer (some ⟨d,0,none⟩)]] 107)):=⟨j.o.bel.trans (r.mono j.o.bel.size),(Yae (S:=fun _=>False) r).cell (j.o.cell 0 (by decide) aP.o) id,fun aI aE o l=>by
  simp only[Yai,Yat,or_false,Prod.mk.injEq]at l;obtain⟨rfl,rfl,rfl⟩:=l;exact⟨by omega,by omega,am.below k,ah.below k⟩⟩
 have ax:∀ae,ArrI v aC I W.heap.size c 0 false [(f,d,intL)] ae 0 (b.alloc (.cells #[.func (.func 176) #[] #[.pointer (some ⟨c,0,none⟩)],.func (.func 169) #[] #[.pointer (some ⟨f,0,none⟩),.pointer (some ⟨d,0,none⟩)]] 107)):=fun ae=>⟨g,by rw[Yay rfl];exact H.o.below y,((af.below N).below k).cell 0 rfl,fun M=>(by cases M),by omega,by omega,fun M=>(by cases M),(fun aI aE o l=>by
  simp only[Yai,Yat,or_false,Prod.mk.injEq]at l;obtain⟨rfl,rfl,rfl⟩:=l;exact⟨by omega,by omega⟩),by omega,by omega⟩
 have u:=Hd (Zev aK.o aD.o j.o r (by have:=aj.o;omega) b.heap.size 2 2 W.heap.size c f d 0 false [(f,d,intL)] (by decide) (by decide) (fun M=>by exact Yam) (fun M=>by omega) (fun i t hq=>by
   match i,hq with
   |0,hq=>obtain rfl:=Yac hq;exact Q.cell 0 rfl
   |1,hq=>obtain rfl:=Yac hq;exact Q.cell 1 rfl
   |i+2,hq=>cases hq) (by omega) ax ⟨Yad _,by omega,by omega⟩ (fun z a=>by have:=ac.o z a;omega))
 have ap:=Hd (r.mono j.o.lo1);have U:=Hd (H.o.below y);unfold Tk7G at u;clear af aF C am ah aJ aG N D k Q y r g aa ax ab az aB aq ak;go_wp2_with fail;with_reducible refine u.o.mono ?_
 rintro e al⟨aU,rfl,_,g,aA,J,_,_,_,_,_,_,G⟩;have av:=Hd (g al (Yak _ _));have ay:=Hd (ap.o.trans J);have h:Box al W.heap.size #[.string (S (Zbd ((Zb7 2 stk 0).getD 0 [])))] 9:=by
  by_cases a:Zdz 2 stk 0=0
  ·have O:Zb7 2 stk 0=stk.drop (stk.length-2):=by unfold Zb7;rw[Yay a]
   rw[O];exact aA a
  ·have O:Zb7 2 stk 0=List.replicate 2 []:=by unfold Zb7;rw[Yar a]
   rw[O];have aL:(List.replicate 2 ([]:List UInt8)).getD 0 []=[]:=rfl;rw[aL,Zqw];exact U.o.keep (G a) (by omega)
 obtain⟨z,a⟩:∃z,z=Zbd ((Zb7 2 stk 0).getD 0 []):=⟨_,rfl⟩
 have E:z.length<=1000000:=by
  rw[a];refine Yaj (ZnZ _) ?_;obtain⟨x,aT,K⟩:=Zjm stk 0;rw[K];show x.length<=1000000;rcases Zgw x (by rw[K];exact Yam)with e|e
  ·exact ac.o x e
  ·rw[e];simp
 rw[←a]at h;have aV:=h.cell 0 rfl;have aM:=Hd a;have ad:=Hd E;clear g aA J G h a E u;have F:=Hd (ZaY (n:=1) av.o [z] #[.string (S z)] rfl rfl (by simp) (by have P:=aj.o;have T:=Zbh 2 stk 0;omega) (fun aT ar=>by simp only[Yai,Yat,or_false]at ar;have:=ad.o;rw[ar];omega) 9);go_wp2_with fail;refine F.o.mono ?_;rintro e aS⟨rfl,P,T⟩;have aN:=Hd P;have ag:=Hd (ay.o.trans T);clear P T F;go_wp2;go_end0
 exact⟨rfl,by have M:=aN.o;rw[aM.o]at M;exact M,ag.o⟩
theorem ZsJ {A:Nat->Prop}{B:Nat->Nat}{al aH:Nat}{es:List Ent}{n:World}(Z:Tab A n al aH B es)(ac:Shape es){j lo:Nat}{p:Nat->Option Value}(ae:p 0=some (.pointer (some ⟨al,0,none⟩))){W:World}{stk loc:List (List UInt8)}(aM:StW j lo p n W stk loc 0)(ad:stk.length<=1000)(af:∀x∈stk,x.length<=1000000) :
  Calls prog 66 #[.pointer (some ⟨j,0,none⟩)] W (OpG j lo p n (setO es) stk loc W):=by
 have ai:=Ymf;have l:=Hd aM;have aA:=Hd Z;have ao:=Hd ac;have aw:=Hd ad;have ar:=Hd af;have aE:=Hd ae;have I:Below W.heap.size W ((W.alloc (.cells #[.pointer (some ⟨j,0,none⟩)] 55)).alloc (.cells #[.string ⟨#[]⟩] 9)):=Zaa (Zaa (Yab _ _) _) _;have y:Box ((W.alloc (.cells #[.pointer (some ⟨j,0,none⟩)] 55)).alloc (.cells #[.string ⟨#[]⟩] 9)) (W.heap.size+1) #[.string ⟨#[]⟩] 9:=by unfold Box;exact Zam _ _ _ (by simp)
 have q:Box ((W.alloc (.cells #[.pointer (some ⟨j,0,none⟩)] 55)).alloc (.cells #[.string ⟨#[]⟩] 9)) W.heap.size #[.pointer (some ⟨j,0,none⟩)] 55:=by unfold Box;exact Zaz _ (heap_alloc_new _ _)
 have M:((W.alloc (.cells #[.pointer (some ⟨j,0,none⟩)] 55)).alloc (.cells #[.string ⟨#[]⟩] 9)).heap.size=W.heap.size+1+1:=by simp
 obtain⟨f,C⟩:∃V,V=((W.alloc (.cells #[.pointer (some ⟨j,0,none⟩)] 55)).alloc (.cells #[.string ⟨#[]⟩] 9)):=⟨_,rfl⟩
 rw[←C]at I y q M;have ag:Hid (Calls prog 112 #[.pointer (some ⟨W.heap.size+1,0,none⟩)] f.drew (fun e w'=>∃v,e=.returned v/\(∃c,v=.func (.func 176) #[] #[.pointer (some ⟨c,0,none⟩)]/\Box w' c #[.pointer (some ⟨W.heap.size+1,0,none⟩)] 116/\f.heap.size<=c/\Below f.heap.size f w'))):=
  Hd ((Zeo (W.heap.size+1) f.drew).mono (fun e w' ⟨c,T,X,av,aF⟩=>⟨_,T,c,rfl,X,av,(Zab (Yab f.heap.size f)).trans aF⟩))
 have K:Hid (∀V,Calls prog 106 #[.pointer (some ⟨j,0,none⟩),.string ⟨#[105,110,116]⟩] V (fun e w'=>∃v,e=.returned v/\(∃d b,v=.func (.func 169) #[] #[.pointer (some ⟨d,0,none⟩),.pointer (some ⟨b,0,none⟩)]/\Box w' d #[.pointer (some ⟨j,0,none⟩)] 55/\Box w' b #[.string (S intL)] 9/\V.heap.size<=d/\V.heap.size<=b/\Below V.heap.size V w'))):=
  Hd (fun V=>(ZaT j intL V).mono (fun e w' ⟨d,b,T,X⟩=>⟨_,T,d,b,rfl,X⟩))
 have aa:Hid (∀args w,(callFunc 112 args).run prog w=.ok (.enter 112 args) w):=Hd (Zac func112 (by kernel_rfl) rfl);have ak:Hid (∀args w,(callFunc 106 args).run prog w=.ok (.enter 106 args) w):=Hd (Zac func106 (by kernel_rfl) rfl);have aj:Hid (∀args w,(callFunc 103 args).run prog w=.ok (.enter 103 args) w):=Hd (Zac func103 (by kernel_rfl) rfl);have L:Hid (∀(h a:World) (c d b:Nat),Box h c #[.pointer (some ⟨W.heap.size+1,0,none⟩)] 116->f.heap.size<=c->Below f.heap.size f h->Box a d #[.pointer (some ⟨j,0,none⟩)] 55->Box a b #[.string (S intL)] 9->h.heap.size<=d->h.heap.size<=b->Below h.heap.size h a->
   Calls prog 103 #[.pointer (some ⟨j,0,none⟩),.slice (some ⟨a.heap.size,0,none⟩) 3 3] (a.alloc (.cells #[.func (.func 176) #[] #[.pointer (some ⟨c,0,none⟩)],.func (.func 169) #[] #[.pointer (some ⟨d,0,none⟩),.pointer (some ⟨b,0,none⟩)],.func (.func 113) #[] #[.pointer (some ⟨W.heap.size,0,none⟩),.pointer (some ⟨W.heap.size+1,0,none⟩)]] 107)) (fun e w'=>∃v,e=.returned v/\(StW j lo p n w' (Zb4 3 stk 0) loc (Zc2 3 (arrB es) stk 0)/\Below lo W w'))):=Hd (fun h a c d b E O g H F R P m=>by
  have Q:Below f.heap.size f a:=g.trans (m.mono g.size);obtain⟨cells,k⟩:∃cells:Array Value,cells=#[.func (.func 176) #[] #[.pointer (some ⟨c,0,none⟩)],.func (.func 169) #[] #[.pointer (some ⟨d,0,none⟩),.pointer (some ⟨b,0,none⟩)],.func (.func 113) #[] #[.pointer (some ⟨W.heap.size,0,none⟩),.pointer (some ⟨W.heap.size+1,0,none⟩)]]:=⟨_,rfl⟩
  rw[←k];have r:Below a.heap.size a (a.alloc (.cells cells 107)):=Zaa (Yab _ _) _;have U:=Box.new a cells 107;have N:Below f.heap.size f (a.alloc (.cells cells 107)):=Q.trans (r.mono Q.size);have G:Below W.heap.size W (a.alloc (.cells cells 107)):=I.trans (N.mono I.size);have aL:=l.o.lt;have aP:=l.o.bel.size;have aQ:=g.size;have aO:=Q.size;have aN:=r.size;have Y:Stands n al j [(d,b,intL)] (a.alloc (.cells cells 107)):=⟨l.o.bel.trans (G.mono l.o.bel.size),(Yae (S:=fun _=>False) G).cell (l.o.cell 0 (by decide) aE.o) id,fun ax ap o s=>by
   simp only[Yai,Yat,or_false,Prod.mk.injEq]at s;obtain⟨rfl,rfl,rfl⟩:=s;exact⟨by omega,by omega,H.below r,F.below r⟩⟩
  have aB:∀ab,ArrI n al j (W.heap.size+1) c W.heap.size true [(d,b,intL)] ab 0 (a.alloc (.cells cells 107)):=fun ab=>⟨Y,by rw[Yay rfl];exact y.below N,((E.below m).below r).cell 0 rfl,fun _=>(q.below N).cell 0 rfl,by omega,by omega,fun _=>⟨by omega,by omega⟩,(fun ax ap o s=>by
   simp only[Yai,Yat,or_false,Prod.mk.injEq]at s;obtain⟨rfl,rfl,rfl⟩:=s;exact⟨by omega,by omega⟩),by omega,by omega⟩
  refine(Zev aA.o ao.o l.o G (by have:=aw.o;omega) a.heap.size 3 3 (W.heap.size+1) c d b W.heap.size true [(d,b,intL)] (by decide) (by decide) (fun _=>Yam) (fun _=>rfl) (fun i t hq=>?_) (by omega) aB ⟨by omega,by omega,by omega⟩ (fun z aD=>by have:=ar.o z aD;omega)).mono (fun e w' ⟨aI,aK,_,aG,_,aC,_⟩=>⟨aI,aK,aG w' (Yak _ _),(G.mono l.o.lo1).trans aC⟩);subst k
  match i,hq with
  |0,hq=>obtain rfl:=Yac hq;exact U.cell 0 rfl
  |1,hq=>obtain rfl:=Yac hq;exact U.cell 1 rfl
  |2,hq=>obtain rfl:=Yac hq;exact U.cell 2 rfl
  |i+3,hq=>cases hq)
 have D:Hid (∀V,Below f.heap.size f V->V.cell? ⟨W.heap.size,0,none⟩=some (.pointer (some ⟨j,0,none⟩))):=Hd (fun V ay=>(q.below ay).cell 0 rfl);have aJ:=D.o f.drew (Zab (Yab _ _));clear Z ac aM ad af ae I y q M;go_enter func66,ntmps66
 go_upto_region 2 with fail;rw[←C];clear C
 (go_region_law (first
   |(refine Zcu (by rfl) 112 #[.tmp 2] #[116] (by rfl) #[.pointer (some ⟨W.heap.size+1,0,none⟩)] (by rfl) (aa.o _ _) ag.o ?_;rintro aT h⟨c,rfl,E,O,g⟩;have am:=D.o h g)
   |(refine Zcu (by rfl) 106 #[.tmp 5,.const (.string ⟨#[105,110,116]⟩)] #[55,9] (by rfl) #[.pointer (some ⟨j,0,none⟩),.string ⟨#[105,110,116]⟩] (by rfl) (ak.o _ _) (K.o _) ?_;rintro aS a⟨d,b,rfl,H,F,R,P,m⟩;have au:=D.o a (g.trans (m.mono g.size));have aq:=D.o (a.alloc (.cells #[.func (.func 176) #[] #[.pointer (some ⟨c,0,none⟩)],.func (.func 169) #[] #[.pointer (some ⟨d,0,none⟩),.pointer (some ⟨b,0,none⟩)],.func (.func 113) #[] #[.pointer (some ⟨W.heap.size,0,none⟩),.pointer (some ⟨W.heap.size+1,0,none⟩)]] 107)) (Zaa (g.trans (m.mono g.size)) _))
   |(refine Zcu (by rfl) 103 #[.tmp 3,.tmp 8] #[55,125] (by rfl) #[.pointer (some ⟨j,0,none⟩),.slice (some ⟨a.heap.size,0,none⟩) 3 3] (by rfl) (aj.o _ _) (L.o h a c d b E O g H F R P m) ?_;rintro aU aR⟨u,J⟩)))
 all_goals
  have az:=Hd u;have ah:=Hd J;clear u J aJ am au aq E O g H F R P m ai L ag K D;go_wp2;go_end0
  refine⟨rfl,?_,ah.o⟩;unfold OpM.stk;show StW j lo p n _ (Zb4 3 stk 0++[]) loc (Zc2 3 (arrB es) stk 0);rw[YaN];exact az.o
