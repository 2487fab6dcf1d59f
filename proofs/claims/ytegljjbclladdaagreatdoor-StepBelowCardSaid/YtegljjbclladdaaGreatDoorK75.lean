/- laws -/
import Derived.Test.YtegljjbclladdaaGreatDoorK74
set_option maxRecDepth 100000
set_option maxHeartbeats 16000000
namespace Go.Proofs.YtegljjbclladdaaGreatDoor
open Go.RowKit Proofs.Tryz
def intL:List UInt8:=[105,110,116]
theorem Zrl (cs:Array Value)(x c v:Value):((cs.setIfInBounds 11 x).setIfInBounds 13 c).setIfInBounds 11 v=(cs.setIfInBounds 11 v).setIfInBounds 13 c:=by
 refine Yck (fun d=>?_);simp only[YaD,Array.size_setIfInBounds];by_cases a:11=d
 ·subst a;simp
 ·by_cases b:13=d
  ·subst b;simp
  ·simp[a,b]
theorem Zkx {W:World}{b:Nat}{t:TypeId}(x:List UInt8)(g:Box W b #[.string (S x)] t):Src 1 StrR (fun k=>k=b) W (.slice (some ⟨b,0,none⟩) 1 1) [x]:=
 .inr ⟨b,0,1,rfl,⟨rfl,g.lt,Yad _,by decide⟩,fun k h hy=>by
  match k,hy with
  |0,hy=>
   obtain rfl:=Yac hy;refine⟨strV x,rfl,rfl,fun f u c=>?_⟩;have a:f=0:=by have:f<(strV x).cells.size:=(Ybb.1 c).1;simp[Value.cells]at this;exact this
   subst a;have d:u=strV x:=by simpa[Value.cells]using c.symm
   subst d;exact g.cell 0 rfl
  |k+1,hy=>cases hy⟩
structure Stands (w0:World) (T X:Nat) (l:List (Nat×Nat×List UInt8)) (W:World):Prop where
 bel:Below w0.heap.size w0 W
 tab:W.cell? ⟨X,0,none⟩=some (.pointer (some ⟨T,0,none⟩))
 box:∀c1 c2 o,(c1,c2,o)∈l->c1≠X/\c2≠X/\Box W c1 #[.pointer (some ⟨X,0,none⟩)] 55/\Box W c2 #[.string (S o)] 9
theorem Stands.below {b:World}{n p:Nat}{l:List (Nat×Nat×List UInt8)}{W c:World}(d:Stands b n p l W)(a:Below W.heap.size W c):Stands b n p l c:=
 ⟨d.bel.trans (a.mono d.bel.size),(Yae (S:=fun _=>False) a).cell d.tab id,fun i j o f=>by obtain⟨g,k,h,m⟩:=d.box i j o f;exact⟨g,k,h.below a,m.below a⟩⟩
theorem Stands.set {a:World}{q b:Nat}{l:List (Nat×Nat×List UInt8)}{W:World}(n:Stands a q b l W)(p:a.heap.size<=b)(f:Nat)(m:f≠0)(v:Value):Stands a q b l (W.setCell ⟨b,f,none⟩ v):=
 ⟨n.bel.setCell p v,by rw[World.cell?_setCell_other W ⟨b,f,none⟩ ⟨b,0,none⟩ v (by intro e;injection e with _ e;exact m e)];exact n.tab,
  fun i j o g=>by obtain⟨c,d,h,k⟩:=n.box i j o g;exact⟨c,d,h.set_ne c f v,k.set_ne d f v⟩⟩
def subT (p:Nat×Nat×List UInt8):Zln:=⟨169,#[],#[.pointer (some ⟨p.1,0,none⟩),.pointer (some ⟨p.2.1,0,none⟩)]⟩
theorem Zm3 {A:Nat->Prop}{B:Nat->Nat}{O ab:Nat}{es:List Ent}{g:World}(U:Tab A g O ab B es)(ad:Shape es)(c lo z J m:Nat)(cs:Array Value)(sv:Value)(stk:List (List UInt8))(l:List (Nat×Nat×List UInt8))(w:World)(E:m=l.length)
  (C:g.heap.size<=c)(aj:Box w c cs 58)(H:cs.size=14)(L:cs[11]?=some sv)(N:cs[13]?=some (.int .i64 0))(ac:KR lo w sv stk)(G:sv.ownBlock≠some c)(I:1<=l.length)(X:l.length<=stk.length)(j:stk.length<=1048576)
  (M:∀i p,l[i]?=some p->w.cell? ⟨z,i,none⟩=some (.func (.func 169) #[] #[.pointer (some ⟨p.1,0,none⟩),.pointer (some ⟨p.2.1,0,none⟩)]))(K:z≠c)(af:Stands g O c l w)(aa:∀p∈l,p.2.2.length<=9223372036854775807)(F:∀x∈stk,x.length<=9223372036854775807) :
  Calls prog 103 #[.pointer (some ⟨c,0,none⟩),.slice (some ⟨z,0,none⟩) m J] w (fun e w'=>∃u n,e=.returned u/\Src 1 StrR (fun k=>w.heap.size<=k) w' u (stk.drop (stk.length-l.length))/\
   Box w' c ((cs.setIfInBounds 11 n).setIfInBounds 13 (.int .i64 (errT (fun i=>subE es (stk.getD (stk.length-l.length+i) []) (l.getD i (0,0,[])).2.2) l.length:Nat))) 58/\
   KR lo w' n (stk.take (stk.length-l.length))/\n.ownBlock=sv.ownBlock/\Stands g O c l w'/\Only (fun i=>i=c) w w'):=by
 subst E;have a:(l.map subT).length=l.length:=YaB ..;have r:=Zlh c lo z J cs sv stk (l.map subT) (fun i=>subE es (stk.getD (stk.length-l.length+i) []) (l.getD i (0,0,[])).2.2) (fun _ W=>Stands g O c l W) (fun _=>False) w aj H L N ac G (by rw[a];exact I) (by rw[a];exact X) j
  (fun i t b=>by
   rw[Yav]at b;obtain⟨p,d,rfl⟩:=YaO.1 b;exact M i p d) K
  (fun t b=>by
   obtain⟨p,_,rfl⟩:=Ya2.1 b;exact Zac func169 (by kernel_rfl) rfl) af
  (fun _ W ag r P=>r.below P) (fun _ W v r=>⟨r.set C 13 (by decide) v,r.set C 11 (by decide) v⟩)
  (fun i t s b j W q=>by
   rw[a]at j;rw[Yav]at b;obtain⟨p,d,rfl⟩:=YaO.1 b;obtain⟨h,f,o⟩:=p;obtain⟨_,_,V,T⟩:=q.box h f o (Yaf d);have ah:=Zgu U ad c h f o s W q.bel (aa _ (Yaf d)) (F s (Yaf j)) (V.cell 0 rfl) (T.cell 0 rfl) q.tab;have Q:(stk.getD (stk.length-l.length+i) [])=s:=by rw[Yap,j];rfl
   have Y:(l.getD i (0,0,[])).2.2=o:=by rw[Yap,d];rfl
   rw[Q,Y];have al:((subT (h,f,o)).first.push (Value.string (S s))++(subT (h,f,o)).caps)=#[.string (S s),.pointer (some ⟨h,0,none⟩),.pointer (some ⟨f,0,none⟩)]:=by simp[subT]
   rw[al];exact ah.mono (fun e ag ⟨D,y⟩=>⟨D,q.below y,Yae y⟩))
  (fun _ r=>r.elim)
 rw[a]at r;exact r.mono (fun e w' ⟨u,n,D,y,Z,ak,ai,R,ae,_⟩=>⟨u,n,D,y,Z,ak,ai,R,ae.mono (fun i _ e=>by rcases e with e|e;exact e;exact e.elim)⟩)
theorem ZlF {A:Nat->Prop}{B:Nat->Nat}{aS a7:Nat}{es:List Ent}{F:World}(ak:Tab A F aS a7 B es)(ay:Shape es)(r lo:Nat)(cs:Array Value)(sv:Value)(l:List (List UInt8))(a b:List UInt8)(w:World)
  (aJ:Below F.heap.size F w)(ab:F.heap.size<=r)(G:Box w r cs 58)(Z:cs.size=14)(ar:cs[0]?=some (.pointer (some ⟨aS,0,none⟩)))(N:cs[11]?=some sv)(P:cs[13]?=some (.int .i64 0))(aL:KR lo w sv (l++[a,b]))(M:sv.ownBlock≠some r)(ad:lo<=w.heap.size)
  (aq:l.length<=1000)(aC:subE es a intL=true)(ah:subE es b intL=true)(Y:∀x∈l++[a,b],x.length<=9223372036854775807) :
  Calls prog 51 #[.pointer (some ⟨r,0,none⟩)] w (fun e w'=>e=.returned (.tuple #[])/\∃u,Box w' r ((cs.setIfInBounds 11 u).setIfInBounds 13 (.int .i64 0)) 58/\KR lo w' u (l++[intL])/\u.ownBlock≠some r/\Only (fun i=>i=r\/sv.ownBlock=some i) w w'/\(u.ownBlock=sv.ownBlock\/∀g,u.ownBlock=some g->w.heap.size<=g)):=by
 have E:Hid (∀W,Calls prog 106 #[.pointer (some ⟨r,0,none⟩),.string ⟨#[105,110,116]⟩] W (SubG r intL W)):=Hd (fun W=>ZaT r intL W);unfold SubG at E;have a3:=Hd ak;have aU:=Hd ay;have av:=Hd aJ;have aw:=Hd ab;have ae:=Hd G;have U:=Hd Z;have aW:=Hd ar;have Q:=Hd N;have aO:=Hd P;have am:=Hd aL;have V:=Hd M;have a4:=Hd aC;have aR:=Hd ah;have az:=Hd aq;have au:=Hd ad;have aI:=Hd Y;clear ak ay aJ ab G Z ar N P aL M aC ah aq Y ad;go_enter func51,ntmps51
 go_wp2_with fail;with_reducible refine(E.o w).mono ?_
 rintro e aT⟨m,f,rfl,aE,ax,a2,aV,I⟩;go_wp2_with fail;with_reducible refine(E.o aT).mono ?_
 rintro e w2⟨h,j,rfl,aH,aQ,a5,a1,H⟩;have J:=Hd (I.trans (H.mono I.size));have b3:Below w2.heap.size w2 (w2.alloc (.cells #[.func (.func 169) #[] #[.pointer (some ⟨m,0,none⟩),.pointer (some ⟨f,0,none⟩)],.func (.func 169) #[] #[.pointer (some ⟨h,0,none⟩),.pointer (some ⟨j,0,none⟩)]] 107)):=Zaa (Yab _ _) _;have af:=Box.new w2 #[.func (.func 169) #[] #[.pointer (some ⟨m,0,none⟩),.pointer (some ⟨f,0,none⟩)],.func (.func 169) #[] #[.pointer (some ⟨h,0,none⟩),.pointer (some ⟨j,0,none⟩)]] 107;have a9:=ae.o.lt;have c:Below w.heap.size w (w2.alloc (.cells #[.func (.func 169) #[] #[.pointer (some ⟨m,0,none⟩),.pointer (some ⟨f,0,none⟩)],.func (.func 169) #[] #[.pointer (some ⟨h,0,none⟩),.pointer (some ⟨j,0,none⟩)]] 107)):=J.o.trans (b3.mono J.o.size);have L:Stands F aS r [(m,f,intL),(h,j,intL)] (w2.alloc (.cells #[.func (.func 169) #[] #[.pointer (some ⟨m,0,none⟩),.pointer (some ⟨f,0,none⟩)],.func (.func 169) #[] #[.pointer (some ⟨h,0,none⟩),.pointer (some ⟨j,0,none⟩)]] 107)):=⟨av.o.trans (c.mono av.o.size),(Yae (S:=fun _=>False) c).cell (ae.o.cell 0 aW.o) id,fun bd bb o al=>by
  have D:=I.size;simp only[Yai,Yat,or_false,Prod.mk.injEq]at al;rcases al with⟨rfl,rfl,rfl⟩|⟨rfl,rfl,rfl⟩
  ·exact⟨by omega,by omega,(aE.below H).below b3,(ax.below H).below b3⟩
  ·exact⟨by omega,by omega,aH.below b3,aQ.below b3⟩⟩
 have aY:=J.o.size;have ac:=Hd (Zm3 a3.o aU.o r lo w2.heap.size 2 2 cs sv (l++[a,b]) [(m,f,intL),(h,j,intL)] (w2.alloc (.cells #[.func (.func 169) #[] #[.pointer (some ⟨m,0,none⟩),.pointer (some ⟨f,0,none⟩)],.func (.func 169) #[] #[.pointer (some ⟨h,0,none⟩),.pointer (some ⟨j,0,none⟩)]] 107)) rfl aw.o (ae.o.below c) U.o Q.o aO.o (am.o.below c) V.o (by simp) (by simp) (by have:=az.o;simp;omega)
  (fun i p hp=>by
   match i,hp with
   |0,hp=>obtain rfl:=Yac hp;exact af.cell 0 rfl
   |1,hp=>obtain rfl:=Yac hp;exact af.cell 1 rfl
   |i+2,hp=>cases hp) (by omega) L (fun p hp=>by simp only[Yai,Yat,or_false]at hp;rcases hp with rfl|rfl<;>simp[intL]) aI.o)
 have q:=Hd c;clear aE ax aH aQ a2 aV a5 a1 I H b3 af L c;go_wp2_with fail;with_reducible refine ac.o.mono ?_
 rintro e d⟨bf,aF,rfl,aD,t,s,n,aP,y⟩;have aj:(l++[a,b]).length - [(m,f,intL),(h,j,intL)].length=l.length:=by simp
 have aG:errT (fun i=>subE es ((l++[a,b]).getD (l.length+i) []) ([(m,f,intL),(h,j,intL)].getD i (0,0,[])).2.2) [(m,f,intL),(h,j,intL)].length=0:=by
  have a6:(l++[a,b]).getD (l.length+0) []=a:=by rw[Yap,YaJ (by omega)];simp
  have a8:(l++[a,b]).getD (l.length+1) []=b:=by rw[Yap,YaJ (by omega)];simp
  show reqE (reqE 0 (subE es ((l++[a,b]).getD (l.length+0) []) intL) 73) (subE es ((l++[a,b]).getD (l.length+1) []) intL) 73=0;rw[a6,a8,a4.o,aR.o];rfl
 have aK:(l++[a,b]).take l.length=l:=by rw[YbE (Yad _),YaE]
 rw[aj]at t s;rw[aG]at t;rw[aK]at s;have v:Below d.heap.size d (d.alloc (.cells #[.string (S intL)] 9)):=Zaa (Yab _ _) _;have ba:=y.size;have O:=Hd (Zi6 r lo _ aF (.slice (some ⟨d.heap.size,0,none⟩) 1 1) l [intL] (d.alloc (.cells #[.string (S intL)] 9)) (fun k=>k=d.heap.size) (t.below v) (by simp[U.o]) (show _=some aF by
   rw[YaD,Yar (by decide)];exact ZdP Q.o) (s.below v) (by have D:=q.o.size;have K:=au.o;have ap:=v.size;omega) (by rw[n];exact V.o)
  (Zkx intL (Box.new d #[.string (S intL)] 9)) (fun i bc=>by
   have D:=J.o.size;have K:=q.o.size;refine⟨by omega,fun e=>?_⟩;have ap:=(am.o.own i (by rw[←n];exact e)).2;omega) (by have:=az.o;simp;omega) (fun x G=>by simp only[Yai,Yat,or_false]at G;subst G;decide))
 have ai:=Hd y;have z:=Hd n;clear aD t s n aP y aj aG aK ac;go_wp2_with fail;refine O.o.mono ?_;rintro e aZ⟨rfl,ag,C,X,R,T,aa⟩;rw[Zrl]at C;have aA:Hid (Only (fun i=>i=r\/sv.ownBlock=some i) w aZ):=Hd (by
  have D:Only (fun i=>i=r\/sv.ownBlock=some i) w d:=(Yae (S:=fun i=>i=r\/sv.ownBlock=some i) q.o).then ai.o (fun i _ e=>.inl e);have K:=D.alloc (.cells #[.string (S intL)] 9);refine K.then T (fun i _ e=>?_);rw[z.o]at e;exact e)
 have aN:=Hd C;have aM:=Hd X;have aB:=Hd R;have ao:Hid (ag.ownBlock=sv.ownBlock\/∀g,ag.ownBlock=some g->w.heap.size<=g):=Hd (by
  have D:=q.o.size;rcases aa with a0|a0
  ·exact .inl (a0.trans z.o)
  ·exact .inr (fun g aX=>by have K:=a0 g aX;have ap:(d.alloc (.cells #[.string (S intL)] 9)).heap.size=d.heap.size+1:=(by simp);omega))
 clear C X R T aa O;go_wp2;go_end0
 exact⟨rfl,ag,aN.o,aM.o,aB.o,aA.o,ao.o⟩
structure StW (X lo:Nat) (p:Nat->Option Value) (w0 W:World) (stk loc:List (List UInt8)) (er:Nat):Prop where
 ex:∃cs sv lv,cs.size=14/\(∀j,j<11->cs[j]?=p j)/\cs[11]?=some sv/\cs[12]?=some lv/\cs[13]?=some (.int .i64 (er:Nat))/\Box W X cs 58/\KR lo W sv stk/\KR lo W lv loc/\sv.ownBlock≠some X/\lv.ownBlock≠some X/\(∀g,sv.ownBlock=some g->lv.ownBlock≠some g)
 lo1:lo<=W.heap.size
 lo2:w0.heap.size<=lo
 lo3:lo<=X
 bel:Below w0.heap.size w0 W
theorem ZlG {A:Nat->Prop}{B:Nat->Nat}{V K:Nat}{es:List Ent}{n:World}(G:Tab A n V K B es)(L:Shape es)(v lo:Nat)(p:Nat->Option Value)(H:p 0=some (.pointer (some ⟨V,0,none⟩)))(t loc:List (List UInt8))(a b:List UInt8)(w:World)(c:StW v lo p n w (t++[a,b]) loc 0)
  (R:t.length<=1000)(P:subE es a intL=true)(y:subE es b intL=true)(q:∀x∈t++[a,b],x.length<=9223372036854775807) :
  Calls prog 51 #[.pointer (some ⟨v,0,none⟩)] w (fun e w'=>e=.returned (.tuple #[])/\StW v lo p n w' (t++[intL]) loc 0/\Below lo w w'):=by
 obtain⟨cs,sv,I,k,s,u,E,Q,F,m,r,N,h,j⟩:=c.ex;refine(ZlF G L v lo cs sv t a b w c.bel (Yaj c.lo2 c.lo3) F k (by rw[s 0 (by decide)];exact H) u Q m N c.lo1 R P y q).mono (fun e w' ⟨z,C,J,O,M,f,D⟩=>⟨z,⟨⟨_,C,I,?_,?_,?_,?_,?_,J,O,?_,M,h,?_⟩,Yaj c.lo1 f.size,c.lo2,c.lo3,c.bel.trans (f.below c.bel.size (fun i l=>?_))⟩,f.below c.lo1 (fun i l=>?_)⟩)
 ·simp[k]
 ·intro Y U;rw[YaD,Yar (by omega),YaD,Yar (by omega)];exact s Y U
 ·rw[YaD,Yar (by decide)];exact ZdP u
 ·rw[YaD,Yar (by decide),YaD,Yar (by decide)];exact E
 ·rw[YaD,Yay rfl,Yay (by simp[k])];rfl
 ·exact r.keep f (fun g d e=>by
   rcases e with e|e
   ·exact h (e▸d)
   ·exact j g e d)
 ·intro g d e;rcases D with T|T
  ·exact j g (T▸d) e
  ·have W:=T g d;have X:=(r.own g e).2;omega
 ·rcases l with e|e
  ·rw[e];exact Yaj c.lo2 c.lo3
  ·exact Yaj c.lo2 (m.own i e).1
 ·rcases l with e|e
  ·rw[e];exact c.lo3
  ·exact(m.own i e).1
def effL:List (List UInt8×Nat):=[([105,110,116],42),
 ([116,114,117,101],43),
 ([102,97,108,115,101],43),
 ([119,111,114,100],44),
 ([110,117,108,108],45),
 ([108,111,97,100],46),
 ([115,116,111,114,101],47),
 ([112,111,112],48),
 ([100,117,112],49),
 ([115,119,97,112],50),
 ([97,100,100],51),
 ([115,117,98],51),
 ([109,117,108],51),
 ([100,105,118],51),
 ([114,101,109],51),
 ([97,110,100],51),
 ([111,114],51),
 ([120,111,114],51),
 ([115,104,108],51),
 ([115,104,114],51),
 ([110,101,103],52),
 ([108,101,115,115],53),
 ([115,97,109,101],53),
 ([110,111,116],54),
 ([98,111,116,104],55),
 ([106,111,105,110],56),
 ([106,117,109,112],57),
 ([98,114,97,110,99,104],58),
 ([111,117,116],59),
 ([110,101,119],60),
 ([103,101,116],61),
 ([112,117,116],62),
 ([99,97,108,108],63),
 ([97,114,114,97,121],64),
 ([97,116],65),
 ([115,101,116],66),
 ([115,105,122,101],67),
 ([105,115],68),
 ([99,97,115,116],69),
 ([101,113,117,97,108],70),
 ([114,101,116,117,114,110],71),
 ([116,104,114,111,119],72)]
abbrev fnV (a:Nat):Value:=.func (.func a) #[] #[]
noncomputable def effF (l:List (List UInt8×Nat)):Lit->Value:=l.foldl (fun f p=>updF f (.string p.1) (fnV p.2)) (fun _=>.nilFunc)
noncomputable def effH (l:List (List UInt8×Nat)):Lit->Bool:=l.foldl (fun f p=>updF f (.string p.1) true) (fun _=>false)
theorem ZsR (w:World):(zeroValue 51).run prog w=.ok .nilFunc w:=by kernel_rfl
def EffM (w:World)(b:Nat)(l:List (List UInt8×Nat)):Prop:=∃m,m<=l.length/\MapF prog 9 .nilFunc w b m (effF l) (effH l)
theorem EffM.store {w:World}{b:Nat}{l:List (List UInt8×Nat)}(r:EffM w b l)(s:l.length<=100)(a:List UInt8)(c:Nat)(j:a.length<=9223372036854775807) :
  ∃w',(Instr.mapUpdate 53 (.map (some b)) (.string (S a)) (fnV c)).run prog w=.ok () w'/\EffM w' b (l++[(a,c)])/\Only (fun i=>i=b) w w'/\w'.heap.size=w.heap.size:=by
 obtain⟨m,p,q⟩:=r;obtain⟨w',k,n,d,h⟩:=q.store Zbb (t:=53) underlying53 (by unfold maxLen;omega) (val:=fnV c) (ZcT a j);refine⟨w',k,⟨if effH l (.string a)=true then m else m+1,?_,?_⟩,d,h⟩
 ·rw[Yal];split<;>simp<;>omega
 ·have f:effF (l++[(a,c)])=updF (effF l) (.string a) (fnV c):=by unfold effF;rw[Ybc];rfl
  have g:effH (l++[(a,c)])=updF (effH l) (.string a) true:=by unfold effH;rw[Ybc];rfl
  rw[f,g];exact n
def EffG (w:World)(e:Ending)(w':World):Prop:=∃b,e=.returned (.map (some b))/\w.heap.size<=b/\EffM w' b effL/\Below w.heap.size w w'
theorem ZjP (w:World):Calls prog 17 #[] w (EffG w):=by
 have cV:=@run_makeMap prog;have cz:EffM (w.alloc (.map #[] 0)) w.heap.size []:=⟨0,Yad _,MapF.new _ _ _ _⟩;have bH:Below w.heap.size w (w.alloc (.map #[] 0)):=Zaa (Yab _ _) _;obtain⟨bN,cK,cI,bR,_⟩:=cz.store (by decide) [105,110,116] 42 (by decide);have bG:=bH.trans (bR.below bH.size (fun i e=>by rw[e];exact Yad _));clear bR cz bH
 change (Instr.mapUpdate 53 (.map (some w.heap.size)) (.string ⟨#[105,110,116]⟩) (fnV 42)).run prog (w.alloc (.map #[] 0))=.ok () bN at cK;obtain⟨w2,cP,co,cE,_⟩:=cI.store (by decide) [116,114,117,101] 43 (by decide);have bD:=bG.trans (cE.below bG.size (fun i e=>by rw[e];exact Yad _));clear cE cI bG;change (Instr.mapUpdate 53 (.map (some w.heap.size)) (.string ⟨#[116,114,117,101]⟩) (fnV 43)).run prog bN=.ok () w2 at cP;obtain⟨cB,cU,cD,b8,_⟩:=co.store (by decide) [102,97,108,115,101] 43 (by decide);have bJ:=bD.trans (b8.below bD.size (fun i e=>by rw[e];exact Yad _));clear b8 co bD;change (Instr.mapUpdate 53 (.map (some w.heap.size)) (.string ⟨#[102,97,108,115,101]⟩) (fnV 43)).run prog w2=.ok () cB at cU;obtain⟨bZ,cR,cH,bS,_⟩:=cD.store (by decide) [119,111,114,100] 44 (by decide);have bF:=bJ.trans (bS.below bJ.size (fun i e=>by rw[e];exact Yad _));clear bS cD bJ;change (Instr.mapUpdate 53 (.map (some w.heap.size)) (.string ⟨#[119,111,114,100]⟩) (fnV 44)).run prog cB=.ok () bZ at cR;obtain⟨b6,cM,cq,cv,_⟩:=cH.store (by decide) [110,117,108,108] 45 (by decide);have bC:=bF.trans (cv.below bF.size (fun i e=>by rw[e];exact Yad _));clear cv cH bF;change (Instr.mapUpdate 53 (.map (some w.heap.size)) (.string ⟨#[110,117,108,108]⟩) (fnV 45)).run prog bZ=.ok () b6 at cM;obtain⟨b4,cT,bM,b9,_⟩:=cq.store (by decide) [108,111,97,100] 46 (by decide);have bB:=bC.trans (b9.below bC.size (fun i e=>by rw[e];exact Yad _));clear b9 cq bC;change (Instr.mapUpdate 53 (.map (some w.heap.size)) (.string ⟨#[108,111,97,100]⟩) (fnV 46)).run prog b6=.ok () b4 at cT;obtain⟨ch,cL,cn,cd,_⟩:=bM.store (by decide) [115,116,111,114,101] 47 (by decide);have bE:=bB.trans (cd.below bB.size (fun i e=>by rw[e];exact Yad _));clear cd bM bB;change (Instr.mapUpdate 53 (.map (some w.heap.size)) (.string ⟨#[115,116,111,114,101]⟩) (fnV 47)).run prog b4=.ok () ch at cL;obtain⟨bT,cN,cw,cb,_⟩:=cn.store (by decide) [112,111,112] 48 (by decide);have bA:=bE.trans (cb.below bE.size (fun i e=>by rw[e];exact Yad _));clear cb cn bE;change (Instr.mapUpdate 53 (.map (some w.heap.size)) (.string ⟨#[112,111,112]⟩) (fnV 48)).run prog ch=.ok () bT at cN;obtain⟨bK,cO,ck,bY,_⟩:=cw.store (by decide) [100,117,112] 49 (by decide);have bI:=bA.trans (bY.below bA.size (fun i e=>by rw[e];exact Yad _));clear bY cw bA;change (Instr.mapUpdate 53 (.map (some w.heap.size)) (.string ⟨#[100,117,112]⟩) (fnV 49)).run prog bT=.ok () bK at cO;obtain⟨bn,cQ,aB,ci,_⟩:=ck.store (by decide) [115,119,97,112] 50 (by decide);have u:=bI.trans (ci.below bI.size (fun i e=>by rw[e];exact Yad _));clear ci ck bI;change (Instr.mapUpdate 53 (.map (some w.heap.size)) (.string ⟨#[115,119,97,112]⟩) (fnV 50)).run prog bK=.ok () bn at cQ;obtain⟨aO,b2,aI,K,_⟩:=aB.store (by decide) [97,100,100] 51 (by decide);have s:=u.trans (K.below u.size (fun i e=>by rw[e];exact Yad _));clear K aB u;change (Instr.mapUpdate 53 (.map (some w.heap.size)) (.string ⟨#[97,100,100]⟩) (fnV 51)).run prog bn=.ok () aO at b2;obtain⟨ak,cC,Q,az,_⟩:=aI.store (by decide) [115,117,98] 51 (by decide);have F:=s.trans (az.below s.size (fun i e=>by rw[e];exact Yad _));clear az aI s;change (Instr.mapUpdate 53 (.map (some w.heap.size)) (.string ⟨#[115,117,98]⟩) (fnV 51)).run prog aO=.ok () ak at cC;obtain⟨Z,ce,aU,bi,_⟩:=Q.store (by decide) [109,117,108] 51 (by decide);have G:=F.trans (bi.below F.size (fun i e=>by rw[e];exact Yad _));clear bi Q F;change (Instr.mapUpdate 53 (.map (some w.heap.size)) (.string ⟨#[109,117,108]⟩) (fnV 51)).run prog ak=.ok () Z at ce;obtain⟨aH,cr,ae,a4,_⟩:=aU.store (by decide) [100,105,118] 51 (by decide);have H:=G.trans (a4.below G.size (fun i e=>by rw[e];exact Yad _));clear a4 aU G;change (Instr.mapUpdate 53 (.map (some w.heap.size)) (.string ⟨#[100,105,118]⟩) (fnV 51)).run prog Z=.ok () aH at cr;obtain⟨aK,cx,bt,a5,_⟩:=ae.store (by decide) [114,101,109] 51 (by decide);have q:=H.trans (a5.below H.size (fun i e=>by rw[e];exact Yad _));clear a5 ae H;change (Instr.mapUpdate 53 (.map (some w.heap.size)) (.string ⟨#[114,101,109]⟩) (fnV 51)).run prog aH=.ok () aK at cx;obtain⟨L,cF,aT,P,_⟩:=bt.store (by decide) [97,110,100] 51 (by decide);have a:=q.trans (P.below q.size (fun i e=>by rw[e];exact Yad _));clear P bt q;change (Instr.mapUpdate 53 (.map (some w.heap.size)) (.string ⟨#[97,110,100]⟩) (fnV 51)).run prog aK=.ok () L at cF;obtain⟨aA,b3,am,aY,_⟩:=aT.store (by decide) [111,114] 51 (by decide);have B:=a.trans (aY.below a.size (fun i e=>by rw[e];exact Yad _));clear aY aT a;change (Instr.mapUpdate 53 (.map (some w.heap.size)) (.string ⟨#[111,114]⟩) (fnV 51)).run prog L=.ok () aA at b3;obtain⟨bg,bP,aN,ay,_⟩:=am.store (by decide) [120,111,114] 51 (by decide);have E:=B.trans (ay.below B.size (fun i e=>by rw[e];exact Yad _));clear ay am B;change (Instr.mapUpdate 53 (.map (some w.heap.size)) (.string ⟨#[120,111,114]⟩) (fnV 51)).run prog aA=.ok () bg at bP;obtain⟨aJ,cg,bh,a0,_⟩:=aN.store (by decide) [115,104,108] 51 (by decide);have p:=E.trans (a0.below E.size (fun i e=>by rw[e];exact Yad _));clear a0 aN E;change (Instr.mapUpdate 53 (.map (some w.heap.size)) (.string ⟨#[115,104,108]⟩) (fnV 51)).run prog bg=.ok () aJ at cg;obtain⟨af,b0,bl,V,_⟩:=bh.store (by decide) [115,104,114] 51 (by decide);have j:=p.trans (V.below p.size (fun i e=>by rw[e];exact Yad _));clear V bh p;change (Instr.mapUpdate 53 (.map (some w.heap.size)) (.string ⟨#[115,104,114]⟩) (fnV 51)).run prog aJ=.ok () af at b0;obtain⟨ad,ca,ao,ar,_⟩:=bl.store (by decide) [110,101,103] 52 (by decide);have k:=j.trans (ar.below j.size (fun i e=>by rw[e];exact Yad _));clear ar bl j;change (Instr.mapUpdate 53 (.map (some w.heap.size)) (.string ⟨#[110,101,103]⟩) (fnV 52)).run prog af=.ok () ad at ca;obtain⟨bq,b7,aw,a2,_⟩:=ao.store (by decide) [108,101,115,115] 53 (by decide);have y:=k.trans (a2.below k.size (fun i e=>by rw[e];exact Yad _));clear a2 ao k;change (Instr.mapUpdate 53 (.map (some w.heap.size)) (.string ⟨#[108,101,115,115]⟩) (fnV 53)).run prog ad=.ok () bq at b7;obtain⟨bm,b1,bk,aZ,_⟩:=aw.store (by decide) [115,97,109,101] 53 (by decide);have d:=y.trans (aZ.below y.size (fun i e=>by rw[e];exact Yad _));clear aZ aw y;change (Instr.mapUpdate 53 (.map (some w.heap.size)) (.string ⟨#[115,97,109,101]⟩) (fnV 53)).run prog bq=.ok () bm at b1;obtain⟨bf,bX,aC,ac,_⟩:=bk.store (by decide) [110,111,116] 54 (by decide);have m:=d.trans (ac.below d.size (fun i e=>by rw[e];exact Yad _));clear ac bk d;change (Instr.mapUpdate 53 (.map (some w.heap.size)) (.string ⟨#[110,111,116]⟩) (fnV 54)).run prog bm=.ok () bf at bX;obtain⟨aM,bW,aD,aq,_⟩:=aC.store (by decide) [98,111,116,104] 55 (by decide);have D:=m.trans (aq.below m.size (fun i e=>by rw[e];exact Yad _));clear aq aC m;change (Instr.mapUpdate 53 (.map (some w.heap.size)) (.string ⟨#[98,111,116,104]⟩) (fnV 55)).run prog bf=.ok () aM at bW;obtain⟨a3,bO,bu,M,_⟩:=aD.store (by decide) [106,111,105,110] 56 (by decide);have x:=D.trans (M.below D.size (fun i e=>by rw[e];exact Yad _));clear M aD D;change (Instr.mapUpdate 53 (.map (some w.heap.size)) (.string ⟨#[106,111,105,110]⟩) (fnV 56)).run prog aM=.ok () a3 at bO;obtain⟨T,cy,X,aG,_⟩:=bu.store (by decide) [106,117,109,112] 57 (by decide);have z:=x.trans (aG.below x.size (fun i e=>by rw[e];exact Yad _));clear aG bu x;change (Instr.mapUpdate 53 (.map (some w.heap.size)) (.string ⟨#[106,117,109,112]⟩) (fnV 57)).run prog a3=.ok () T at cy;obtain⟨ap,ct,ab,al,_⟩:=X.store (by decide) [98,114,97,110,99,104] 58 (by decide);have t:=z.trans (al.below z.size (fun i e=>by rw[e];exact Yad _));clear al X z;change (Instr.mapUpdate 53 (.map (some w.heap.size)) (.string ⟨#[98,114,97,110,99,104]⟩) (fnV 58)).run prog T=.ok () ap at ct;obtain⟨aa,cj,N,aS,_⟩:=ab.store (by decide) [111,117,116] 59 (by decide);have A:=t.trans (aS.below t.size (fun i e=>by rw[e];exact Yad _));clear aS ab t;change (Instr.mapUpdate 53 (.map (some w.heap.size)) (.string ⟨#[111,117,116]⟩) (fnV 59)).run prog ap=.ok () aa at cj;obtain⟨aW,cG,bv,a1,_⟩:=N.store (by decide) [110,101,119] 60 (by decide);have g:=A.trans (a1.below A.size (fun i e=>by rw[e];exact Yad _));clear a1 N A;change (Instr.mapUpdate 53 (.map (some w.heap.size)) (.string ⟨#[110,101,119]⟩) (fnV 60)).run prog aa=.ok () aW at cG;obtain⟨bd,b5,R,bc,_⟩:=bv.store (by decide) [103,101,116] 61 (by decide);have f:=g.trans (bc.below g.size (fun i e=>by rw[e];exact Yad _));clear bc bv g;change (Instr.mapUpdate 53 (.map (some w.heap.size)) (.string ⟨#[103,101,116]⟩) (fnV 61)).run prog aW=.ok () bd at b5;obtain⟨ai,cf,aP,bw,_⟩:=R.store (by decide) [112,117,116] 62 (by decide);have c:=f.trans (bw.below f.size (fun i e=>by rw[e];exact Yad _));clear bw R f;change (Instr.mapUpdate 53 (.map (some w.heap.size)) (.string ⟨#[112,117,116]⟩) (fnV 62)).run prog bd=.ok () ai at cf;obtain⟨W,cA,O,aE,_⟩:=aP.store (by decide) [99,97,108,108] 63 (by decide);have J:=c.trans (aE.below c.size (fun i e=>by rw[e];exact Yad _));clear aE aP c;change (Instr.mapUpdate 53 (.map (some w.heap.size)) (.string ⟨#[99,97,108,108]⟩) (fnV 63)).run prog ai=.ok () W at cA;obtain⟨bp,cl,aX,bj,_⟩:=O.store (by decide) [97,114,114,97,121] 64 (by decide);have r:=J.trans (bj.below J.size (fun i e=>by rw[e];exact Yad _));clear bj O J;change (Instr.mapUpdate 53 (.map (some w.heap.size)) (.string ⟨#[97,114,114,97,121]⟩) (fnV 64)).run prog W=.ok () bp at cl;obtain⟨bz,bL,a8,a6,_⟩:=aX.store (by decide) [97,116] 65 (by decide);have n:=r.trans (a6.below r.size (fun i e=>by rw[e];exact Yad _));clear a6 aX r;change (Instr.mapUpdate 53 (.map (some w.heap.size)) (.string ⟨#[97,116]⟩) (fnV 65)).run prog bp=.ok () bz at bL;obtain⟨ba,cs,au,bx,_⟩:=a8.store (by decide) [115,101,116] 66 (by decide);have C:=n.trans (bx.below n.size (fun i e=>by rw[e];exact Yad _));clear bx a8 n;change (Instr.mapUpdate 53 (.map (some w.heap.size)) (.string ⟨#[115,101,116]⟩) (fnV 66)).run prog bz=.ok () ba at cs;obtain⟨aR,bU,aL,aQ,_⟩:=au.store (by decide) [115,105,122,101] 67 (by decide);have l:=C.trans (aQ.below C.size (fun i e=>by rw[e];exact Yad _));clear aQ au C;change (Instr.mapUpdate 53 (.map (some w.heap.size)) (.string ⟨#[115,105,122,101]⟩) (fnV 67)).run prog ba=.ok () aR at bU;obtain⟨a9,cm,ax,aV,_⟩:=aL.store (by decide) [105,115] 68 (by decide);have h:=l.trans (aV.below l.size (fun i e=>by rw[e];exact Yad _));clear aV aL l;change (Instr.mapUpdate 53 (.map (some w.heap.size)) (.string ⟨#[105,115]⟩) (fnV 68)).run prog aR=.ok () a9 at cm;obtain⟨br,cu,bs,ag,_⟩:=ax.store (by decide) [99,97,115,116] 69 (by decide);have I:=h.trans (ag.below h.size (fun i e=>by rw[e];exact Yad _));clear ag ax h;change (Instr.mapUpdate 53 (.map (some w.heap.size)) (.string ⟨#[99,97,115,116]⟩) (fnV 69)).run prog a9=.ok () br at cu;obtain⟨bb,cc,Y,aj,_⟩:=bs.store (by decide) [101,113,117,97,108] 70 (by decide);have v:=I.trans (aj.below I.size (fun i e=>by rw[e];exact Yad _));clear aj bs I;change (Instr.mapUpdate 53 (.map (some w.heap.size)) (.string ⟨#[101,113,117,97,108]⟩) (fnV 70)).run prog br=.ok () bb at cc;obtain⟨av,bQ,U,aF,_⟩:=Y.store (by decide) [114,101,116,117,114,110] 71 (by decide);have b:=v.trans (aF.below v.size (fun i e=>by rw[e];exact Yad _));clear aF Y v;change (Instr.mapUpdate 53 (.map (some w.heap.size)) (.string ⟨#[114,101,116,117,114,110]⟩) (fnV 71)).run prog bb=.ok () av at bQ;obtain⟨bV,cp,a7,ah,_⟩:=U.store (by decide) [116,104,114,111,119] 72 (by decide);have bo:=b.trans (ah.below b.size (fun i e=>by rw[e];exact Yad _));clear ah U b;change (Instr.mapUpdate 53 (.map (some w.heap.size)) (.string ⟨#[116,104,114,111,119]⟩) (fnV 72)).run prog av=.ok () bV at cp;have cS:=Hd a7;have cJ:=Hd bo;clear a7 bo;unfold EffG;go_enter func17,ntmps17;go_wp2;go_ret;exact⟨_,rfl,Yad _,cS.o,cJ.o⟩
theorem ZkM (a:List UInt8):∀(b:List (List UInt8×Nat)),effF b.reverse (.string a)=(match b.find? (fun p=>p.1==a)with|some p=>fnV p.2|none=>.nilFunc)/\effH b.reverse (.string a)=(b.find? (fun p=>p.1==a)).isSome
 |[]=>⟨rfl,rfl⟩
 |p::b=>by
  have g:=ZkM a b;have d:effF ((p::b).reverse)=updF (effF b.reverse) (.string p.1) (fnV p.2):=by unfold effF;rw[List.reverse_cons,Ybc];rfl
  have f:effH ((p::b).reverse)=updF (effH b.reverse) (.string p.1) true:=by unfold effH;rw[List.reverse_cons,Ybc];rfl
  rw[d,f,List.find?_cons];by_cases c:p.1=a
  ·subst c;rw[Zb5,Zb5,Ybi];exact⟨rfl,rfl⟩
  ·rw[Zbk _ _ (fun e=>c (Lit.string.inj e).symm),Zbk _ _ (fun e=>c (Lit.string.inj e).symm),Yah.2 c];exact g
theorem Zsa (a:List UInt8)(l:List (List UInt8×Nat)):effF l (.string a)=(match l.reverse.find? (fun p=>p.1==a)with|some p=>fnV p.2|none=>.nilFunc)/\effH l (.string a)=(l.reverse.find? (fun p=>p.1==a)).isSome:=by
 have b:=ZkM a l.reverse;rw[List.reverse_reverse]at b;exact b
def Zfm (a:List UInt8):Option Nat:=(effL.reverse.find? (fun p=>p.1==a)).map (·.2)
theorem EffM.look {w:World}{b:Nat}(j:EffM w b effL)(a:List UInt8)(f:a.length<=9223372036854775807) :
  (Instr.lookup 53 (.map (some b)) (.string (S a)) true).run prog w=.ok (.tuple #[(match Zfm a with|some i=>fnV i|none=>.nilFunc),.bool (Zfm a).isSome]) w:=by
 obtain⟨m,_,h⟩:=j;have g:=h.look_ok Zbb (t:=53) underlying53 (ZsR w) (ZcT a f);obtain⟨c,d⟩:=Zsa a effL;rw[g,c,d];unfold Zfm;cases effL.reverse.find? (fun p=>p.1==a)<;>rfl
def preS (k:Nat)(d j c a:List UInt8)(i h b:Value)(f:Bool)(g n:Int)(l:Nat):Option Value:=
 #[Value.pointer (some ⟨k,0,none⟩),.string (S d),i,.string (S j),.bool f,.int .i64 g,h,b,.string (S c),.int .i64 n,.string (S a)][l]?
structure D4 (w:World) (b1 b2 b3 b4:Nat) (a1 a2 a3 a4:Array Value) (W:World):Prop where
 x1:Box W b1 a1 26
 x2:Box W b2 a2 28
 x3:Box W b3 a3 30
 x4:Box W b4 a4 30
 bel:Below w.heap.size w W
 g4:w.heap.size<=b4
structure BX (X b:Nat) (cs:Array Value) (n:Nat) (t:TypeId) (W:World):Prop where
 known:Box W X cs t
 there:FS b n W
 ne:X≠b
theorem Znw {c b:Nat}{cs:Array Value}{n:Nat}{t:TypeId}{W:World}(a:BX c b cs n t W):BX c b cs n t W.drew:=⟨a.known,a.there,a.ne⟩
theorem ZrL {d b:Nat}{cs:Array Value}{n:Nat}{t:TypeId}{W:World}(c:Nat)(u:Value)(a:BX d b cs n t W):BX d b cs n t (W.setCell ⟨b,c,none⟩ u):=⟨a.known.set_ne a.ne c u,Ztb c u a.there,a.ne⟩
theorem Ze4 {w:World}{h g b3 b4:Nat}{b c d f:Array Value}{W:World}(a:D4 w h g b3 b4 b c d f W):D4 w h g b3 b4 b c d f W.drew:=⟨a.x1,a.x2,a.x3,a.x4,Zab a.bel,a.g4⟩
theorem ZdC {w:World}{j h b3 b4:Nat}{c d f g:Array Value}{W i:World}(a:Below W.heap.size W i)(b:D4 w j h b3 b4 c d f g W):D4 w j h b3 b4 c d f g i:=⟨b.x1.below a,b.x2.below a,b.x3.below a,b.x4.below a,b.bel.trans (a.mono b.bel.size),b.g4⟩
theorem Zd9 {w:World}{g f b3 b4:Nat}{a b c d:Array Value}{W:World}(o:Obj)(h:D4 w g f b3 b4 a b c d W):D4 w g f b3 b4 a b c d (W.alloc o):=ZdC (Zaa (Yab _ _) o) h
theorem Zs5 (w:World)(a d c b:Array Value):D4 w w.heap.size (w.heap.size+1) (w.heap.size+1+1) (w.heap.size+1+1+1) a d c b ((((w.alloc (.cells a 26)).alloc (.cells d 28)).alloc (.cells c 30)).alloc (.cells b 30)):=by
 refine⟨?_,?_,?_,?_,Zaa (Zaa (Zaa (Zaa (Yab _ _) _) _) _) _,by omega⟩;all_goals
  unfold Box;repeat (first|(exact Zam _ _ _ (by simp))|(with_reducible apply Zaz))
def doR (stk loc:List (List UInt8))(er:Nat):Shp×Nat:=if er≠0 then(Shp.zero,er)else if 24<stk.length then(Shp.zero,72)else(⟨true,stk,loc⟩,0)
def DoG (a:Shp×Nat)(w:World)(e:Ending)(w':World):Prop:=∃v,e=.returned (.tuple #[v,.int .i64 (a.2:Nat)])/\ShpR Anyw w' a.1 v/\Below w.heap.size w w'
theorem ZnW {A:Nat->Prop}(bT:Nat)(aQ:Nat)(F G f z:List UInt8)(q x m:Option Addr)(D t E u y B:Nat)(r:Bool)(C n:Int)(s:Shp)(sv:Value)(aP w:World)(bm:Below aP.heap.size aP w)(cd:ShpR A w s sv)(ar:s.Small)(bP:Zfm f=some bT)(bI:f.length<=9223372036854775807)
  (cu:∀args w,(callFunc bT args).run prog w=.ok (.enter bT args) w)(stk loc:List (List UInt8))(er:Nat)
  (cm:∀K lo W,w.heap.size<=K->w.heap.size<=lo->StW K lo (preS aQ F G f z (.slice q D t) (.slice x E u) (.slice m y B) r C n) aP W s.stk s.loc 0->Calls prog bT #[.pointer (some ⟨K,0,none⟩)] W (fun e b7=>e=.returned (.tuple #[])/\StW K lo (preS aQ F G f z (.slice q D t) (.slice x E u) (.slice m y B) r C n) aP b7 stk loc er/\Below lo W b7)) :
  Calls prog 9 #[.pointer (some ⟨aQ,0,none⟩),.agg #[.string (S F),.slice q D t,.string (S G),.bool r,.int .i64 C,.slice x E u,.slice m y B],.agg #[.string (S f),.int .i64 n,.string (S z)],sv] w (DoG (doR stk loc er) w):=by
 obtain⟨a,b,rfl,aU,aV⟩:=cd;have bY:Hid (∀W,Below w.heap.size w W->Calls prog 18 #[a] W (Zhd s.stk W)):=Hd (fun W br=>Zd8 s.stk a W (StrR.st.below aU br) ar.n1 ar.k1);have bV:Hid (∀W,Below w.heap.size w W->Calls prog 18 #[b] W (Zhd s.loc W)):=Hd (fun W br=>Zd8 s.loc b W (StrR.st.below aV br) ar.n2 ar.k2);have ay:=Hd (fun W=>ZjP W);obtain⟨Z,X,rfl⟩:=aU.shape;obtain⟨I,aa,rfl⟩:=aV.shape;unfold Zhd at bY bV;unfold EffG at ay;have aw:=Hd (Zs5 w #[.string (S F),.slice q D t,.string (S G),.bool r,.int .i64 C,.slice x E u,.slice m y B] #[.string (S f),.int .i64 n,.string (S z)] #[.bool s.seen,.slice Z s.stk.length X,.slice I s.loc.length aa] #[.bool false,.slice none 0 0,.slice none 0 0]);obtain⟨bk,a8⟩:∃bk,bk=((((w.alloc (.cells #[.string (S F),.slice q D t,.string (S G),.bool r,.int .i64 C,.slice x E u,.slice m y B] 26)).alloc (.cells #[.string (S f),.int .i64 n,.string (S z)] 28)).alloc (.cells #[.bool s.seen,.slice Z s.stk.length X,.slice I s.loc.length aa] 30)).alloc (.cells #[.bool false,.slice none 0 0,.slice none 0 0] 30)):=⟨_,rfl⟩
 have a1:Hid (∀b W,EffM W b effL->(Instr.lookup 53 (.map (some b)) (.string (S f)) true).run prog W=.ok (.tuple #[fnV bT,.bool true]) W):=Hd (fun b W H=>by
  have cp:=H.look f bI;rw[bP]at cp;exact cp)
 go_enter func9,ntmps9
 go_upto_region 1 with fail;rw[←a8]at aw⊢;clear a8;obtain⟨j,aA⟩:∃c,c=w.heap.size:=⟨_,rfl⟩
 rw[←aA]at aw⊢;obtain⟨J,a5⟩:∃c,c=j+1:=⟨_,rfl⟩
 rw[←a5]at aw⊢;obtain⟨b3,a7⟩:∃c,c=J+1:=⟨_,rfl⟩
 rw[←a7]at aw⊢;obtain⟨b4,bd⟩:∃c,c=b3+1:=⟨_,rfl⟩
 rw[←bd]at aw⊢;have cn:=Hd aA;clear bd a7 a5 aA;have bv:=aw.o;have aO:Hid (∀W,D4 w j J b3 b4 #[.string (S F),.slice q D t,.string (S G),.bool r,.int .i64 C,.slice x E u,.slice m y B] #[.string (S f),.int .i64 n,.string (S z)] #[.bool s.seen,.slice Z s.stk.length X,.slice I s.loc.length aa] #[.bool false,.slice none 0 0,.slice none 0 0] W->W.cell? ⟨J,0,none⟩=some (.string (S f))):=Hd (fun W H=>H.x2.cell 0 rfl);have aT:=aO.o bk bv;first
 |(go_region_held (fun W=>W.cell? ⟨J,0,none⟩=some (.string (S f))) ((refine aO.o _ ?_;(with_reducible repeat (first|assumption|refine Ze4 ?_|(apply ZdC;assumption)|refine Zd9 _ ?_))))
   ((go_at_call 17;(with_reducible refine(ay.o _).mono ?_);rintro en al⟨cj,rfl,bJ,a2,bc⟩;have bX:=a1.o cj al a2)))
 |fail
 all_goals
  have aK:D4 w j J b3 b4 #[.string (S F),.slice q D t,.string (S G),.bool r,.int .i64 C,.slice x E u,.slice m y B] #[.string (S f),.int .i64 n,.string (S z)] #[.bool s.seen,.slice Z s.stk.length X,.slice I s.loc.length aa] #[.bool false,.slice none 0 0,.slice none 0 0] al:=ZdC bc (Ze4 bv);have Y:=Hd aK;clear aT bJ a2 bc bX bv aO ay a1 aK;have a0:Hid (∀W,D4 w j J b3 b4 #[.string (S F),.slice q D t,.string (S G),.bool r,.int .i64 C,.slice x E u,.slice m y B] #[.string (S f),.int .i64 n,.string (S z)] #[.bool s.seen,.slice Z s.stk.length X,.slice I s.loc.length aa] #[.bool false,.slice none 0 0,.slice none 0 0] W->W.cell? ⟨j,0,none⟩=some (.string (S F))/\W.cell? ⟨j,1,none⟩=some (.slice q D t)/\W.cell? ⟨j,2,none⟩=some (.string (S G))/\W.cell? ⟨j,3,none⟩=some (.bool r)/\W.cell? ⟨j,4,none⟩=some (.int .i64 C)/\W.cell? ⟨j,5,none⟩=some (.slice x E u)/\W.cell? ⟨j,6,none⟩=some (.slice m y B)/\W.cell? ⟨J,0,none⟩=some (.string (S f))/\W.cell? ⟨J,1,none⟩=some (.int .i64 n)/\W.cell? ⟨J,2,none⟩=some (.string (S z))/\W.cell? ⟨b3,1,none⟩=some (.slice Z s.stk.length X)/\W.cell? ⟨b3,2,none⟩=some (.slice I s.loc.length aa)):=Hd (fun W H=>⟨H.x1.cell 0 rfl,H.x1.cell 1 rfl,H.x1.cell 2 rfl,H.x1.cell 3 rfl,H.x1.cell 4 rfl,H.x1.cell 5 rfl,H.x1.cell 6 rfl,H.x2.cell 0 rfl,H.x2.cell 1 rfl,H.x2.cell 2 rfl,H.x3.cell 1 rfl,H.x3.cell 2 rfl⟩);have aN:Hid (∀W,D4 w j J b3 b4 #[.string (S F),.slice q D t,.string (S G),.bool r,.int .i64 C,.slice x E u,.slice m y B] #[.string (S f),.int .i64 n,.string (S z)] #[.bool s.seen,.slice Z s.stk.length X,.slice I s.loc.length aa] #[.bool false,.slice none 0 0,.slice none 0 0] W->Below w.heap.size w W):=Hd (fun W H=>H.bel);have aK:=Y.o;obtain⟨bx,aT,bj,bo,bl,bs,bt,bw,ch,ck,bR,bQ⟩:=a0.o al aK;go_upto_region 3 with fail;first
  |(go_region_held (fun W=>W.cell? ⟨j,0,none⟩=some (.string (S F))/\W.cell? ⟨j,1,none⟩=some (.slice q D t)/\W.cell? ⟨j,2,none⟩=some (.string (S G))/\W.cell? ⟨j,3,none⟩=some (.bool r)/\W.cell? ⟨j,4,none⟩=some (.int .i64 C)/\W.cell? ⟨j,5,none⟩=some (.slice x E u)/\W.cell? ⟨j,6,none⟩=some (.slice m y B)/\W.cell? ⟨J,0,none⟩=some (.string (S f))/\W.cell? ⟨J,1,none⟩=some (.int .i64 n)/\W.cell? ⟨J,2,none⟩=some (.string (S z))/\W.cell? ⟨b3,1,none⟩=some (.slice Z s.stk.length X)/\W.cell? ⟨b3,2,none⟩=some (.slice I s.loc.length aa)) ((refine a0.o _ ?_;(with_reducible repeat (first|assumption|refine Ze4 ?_|(apply ZdC;assumption)|refine Zd9 _ ?_))))
    (first
     |((go_at_call 18;(with_reducible refine(bY.o _ ?_).mono ?_);(focus (refine aN.o _ ?_;(with_reducible repeat (first|assumption|refine Ze4 ?_|(apply ZdC;assumption)|refine Zd9 _ ?_));done));rintro en aB⟨cq,rfl,az,a9⟩;obtain⟨Q,V,rfl⟩:=az.shape))
     |((go_at_call 18;(with_reducible refine(bV.o _ ?_).mono ?_);(focus (refine aN.o _ ?_;(with_reducible repeat (first|assumption|refine Ze4 ?_|(apply ZdC;assumption)|refine Zd9 _ ?_));done));rintro en k⟨cr,rfl,aI,aL⟩;obtain⟨U,R,rfl⟩:=aI.shape))))
  |fail
  all_goals
   have bh:D4 w j J b3 b4 #[.string (S F),.slice q D t,.string (S G),.bool r,.int .i64 C,.slice x E u,.slice m y B] #[.string (S f),.int .i64 n,.string (S z)] #[.bool s.seen,.slice Z s.stk.length X,.slice I s.loc.length aa] #[.bool false,.slice none 0 0,.slice none 0 0] k:=by(with_reducible repeat (first|assumption|refine Ze4 ?_|(apply ZdC;assumption)|refine Zd9 _ ?_))
   have ac:KR al.heap.size aB (.slice Q s.stk.length V) s.stk:=az;have ad:KR aB.heap.size k (.slice U s.loc.length R) s.loc:=aI;have bf:=a9.size;have ap:al.heap.size<=aB.heap.size:=bf;have a6:=aL.size;have bp:D4 w j J b3 b4 #[.string (S F),.slice q D t,.string (S G),.bool r,.int .i64 C,.slice x E u,.slice m y B] #[.string (S f),.int .i64 n,.string (S z)] #[.bool s.seen,.slice Z s.stk.length X,.slice I s.loc.length aa] #[.bool false,.slice none 0 0,.slice none 0 0] (k.alloc (.cells #[.pointer (some ⟨aQ,0,none⟩),.string (S F),.slice q D t,.string (S G),.bool r,.int .i64 C,.slice x E u,.slice m y B,.string (S f),.int .i64 n,.string (S z),.slice Q s.stk.length V,.slice U s.loc.length R,.int .i64 0] 58)):=Zd9 _ bh;have aq:Below k.heap.size k (k.alloc (.cells #[.pointer (some ⟨aQ,0,none⟩),.string (S F),.slice q D t,.string (S G),.bool r,.int .i64 C,.slice x E u,.slice m y B,.string (S f),.int .i64 n,.string (S z),.slice Q s.stk.length V,.slice U s.loc.length R,.int .i64 0] 58)):=Zaa (Yab _ _) _;have aW:StW k.heap.size al.heap.size (preS aQ F G f z (.slice q D t) (.slice x E u) (.slice m y B) r C n) aP (k.alloc (.cells #[.pointer (some ⟨aQ,0,none⟩),.string (S F),.slice q D t,.string (S G),.bool r,.int .i64 C,.slice x E u,.slice m y B,.string (S f),.int .i64 n,.string (S z),.slice Q s.stk.length V,.slice U s.loc.length R,.int .i64 0] 58)) s.stk s.loc 0:=by
    refine⟨⟨_,.slice Q s.stk.length V,.slice U s.loc.length R,rfl,?_,rfl,rfl,rfl,Box.new k _ _,((ac.below aL).below aq),((ad.mono ap).below aq),?_,?_,?_⟩,?_,?_,?_,?_⟩
    ·intro aC cw;have bL:aC=0\/aC=1\/aC=2\/aC=3\/aC=4\/aC=5\/aC=6\/aC=7\/aC=8\/aC=9\/aC=10:=by omega
     rcases bL with rfl|rfl|rfl|rfl|rfl|rfl|rfl|rfl|rfl|rfl|rfl<;>rfl
    ·intro e;have:=(ac.own _ e).2;omega
    ·intro e;have:=(ad.own _ e).2;omega
    ·intro g ab e;have cl:=(ac.own g ab).2;have cg:=(ad.own g e).1;omega
    ·have:=aq.size;omega
    ·exact Yaj bm.size Y.o.bel.size
    ·exact Yaj ap a6
    ·exact bm.trans (bp.bel.mono bm.size)
   have au:=Hd (cm k.heap.size al.heap.size (k.alloc (.cells #[.pointer (some ⟨aQ,0,none⟩),.string (S F),.slice q D t,.string (S G),.bool r,.int .i64 C,.slice x E u,.slice m y B,.string (S f),.int .i64 n,.string (S z),.slice Q s.stk.length V,.slice U s.loc.length R,.int .i64 0] 58)) bh.bel.size Y.o.bel.size aW);have aS:=Hd bp;obtain⟨K,bA⟩:∃K,K=k.heap.size:=⟨_,rfl⟩
   obtain⟨aR,aX⟩:∃aR,aR=(k.alloc (.cells #[.pointer (some ⟨aQ,0,none⟩),.string (S F),.slice q D t,.string (S G),.bool r,.int .i64 C,.slice x E u,.slice m y B,.string (S f),.int .i64 n,.string (S z),.slice Q s.stk.length V,.slice U s.loc.length R,.int .i64 0] 58)):=⟨_,rfl⟩
   rw[←aX]at au aS⊢;rw[←bA]at au⊢;clear aX bA aW bp bh aq az aI ac ad a9 aL bf a6 ap aK bx aT bj bo bl bs bt bw ch ck bR bQ;go_wp2_with fail;with_reducible refine au.o.mono ?_
   rintro e af⟨rfl,ag,aH⟩;obtain⟨cs,sv,ct,cl,cg,bu,b9,ci,bg,bn,bq,ce,bN,co⟩:=ag.ex;obtain⟨O,L,rfl⟩:=bn.shape;obtain⟨N,M,rfl⟩:=bq.shape;have bM:=bg.cell 11 bu;obtain⟨d,ao⟩:∃cv,cv=reqE er (decide ((stk.length:Int)<=24)) 72:=⟨_,rfl⟩
   have bK:Hid (Calls prog 19 #[.pointer (some ⟨K,0,none⟩),.bool (decide ((stk.length:Int)<=24)),.int .i64 72] af (fun en w'=>en=.returned (.tuple #[])/\Box w' K (cs.setIfInBounds 13 (.int .i64 (d:Nat))) 58/\(w'=af\/w'=af.setCell ⟨K,13,none⟩ (.int .i64 (d:Nat))))):=Hd (by
    rw[ao];exact Zch K er 72 (decide ((stk.length:Int)<=24)) cs af bg ci)
   have b5:doR stk loc er=if d=0 then(⟨true,stk,loc⟩,0)else(Shp.zero,d):=by
    rw[ao];unfold doR reqE;by_cases aF:er=0
    ·subst aF;by_cases aY:24<stk.length
     ·have:decide ((stk.length:Int)<=24)=false:=Yan (by omega);simp[this,aY]
     ·have:decide ((stk.length:Int)<=24)=true:=Yas (by omega);simp[this,aY]
    ·simp[aF]
   have b1:=Hd b5;have b8:Box af b4 #[.bool false,.slice none 0 0,.slice none 0 0] 30:=by
    have b0:=Y.o.x4.lt;have bE:af.heap[b4]?=aR.heap[b4]?:=aH.block b4 b0;have cb:aR.heap[b4]?=some (.cells #[.bool false,.slice none 0 0,.slice none 0 0] 30 (0,0)):=aS.o.x4;exact bE.trans cb
   have ax:b4≠K:=fun e=>by
    have b0:=Y.o.x4.lt;have bE:=ag.lo3;omega
   have cf:=aS.o.bel;have am:Below w.heap.size w af:=aS.o.bel.trans (aH.mono Y.o.bel.size);have bS:w.heap.size<=K:=Yaj Y.o.bel.size ag.lo3;clear ao b5 au;go_wp2_with fail;with_reducible refine bK.o.mono ?_
   rintro e h⟨rfl,ah,a4⟩;have aj:Only (fun i=>i=K) af h:=by
    rcases a4 with rfl|rfl
    ·exact Yak _ _
    ·exact(Yak (fun i=>i=K) af).setCell (p:=⟨K,13,none⟩) rfl _
   have ae:=b8.keep aj ax;have bG:=bn.keep aj (fun g ab e=>ce (by rw[ab,e]));have bB:=bq.keep aj (fun g ab e=>bN (by rw[ab,e]));have aD:Below w.heap.size w h:=am.trans (aj.below am.size (fun i e=>by rw[e];exact bS));have ba:h.cell? ⟨K,11,none⟩=some (.slice O stk.length L):=ah.cell 11 (by rw[YaD,Yar (by decide)];exact bu);have a3:h.cell? ⟨K,12,none⟩=some (.slice N loc.length M):=ah.cell 12 (by rw[YaD,Yar (by decide)];exact b9);have bb:h.cell? ⟨K,13,none⟩=some (.int .i64 (d:Nat)):=ah.cell 13 (by rw[YaD,Yay rfl,Yay (by omega)]);have bC:h.cell? ⟨b4,0,none⟩=some (.bool false):=ae.cell 0 rfl;have bU:h.cell? ⟨b4,1,none⟩=some (.slice none 0 0):=ae.cell 1 rfl;have ca:h.cell? ⟨b4,2,none⟩=some (.slice none 0 0):=ae.cell 2 rfl;have bH:=ae.free 0;have b2:=ae.free 1;have bD:=ae.free 2;have aZ:=Hd (⟨ah,⟨_,_,rfl,ae⟩,fun e=>ax e.symm⟩:BX K b4 (cs.setIfInBounds 13 (.int .i64 (d:Nat))) 3 58 h);have aM:(cs.setIfInBounds 13 (.int .i64 (d:Nat)))[11]?=some (.slice O stk.length L)/\(cs.setIfInBounds 13 (.int .i64 (d:Nat)))[12]?=some (.slice N loc.length M):=⟨by rw[YaD,Yar (by decide)];exact bu,by rw[YaD,Yar (by decide)];exact b9⟩;have bW:=Hd ae;have bz:=Hd bG;have bO:=Hd bB;have av:=Hd aD;have aJ:Hid (w.heap.size<=b4):=Hd Y.o.g4;clear b8 ae bG bB aD am aj a4 ah bg bn bq bM ag aH;by_cases aF:d=0
   ·subst aF;have aG:=aZ.o;have ai:Hid (∀W,BX K b4 (cs.setIfInBounds 13 (.int .i64 ((0:Nat):Int))) 3 58 W->W.cell? ⟨K,11,none⟩=some (.slice O stk.length L)/\W.cell? ⟨K,12,none⟩=some (.slice N loc.length M)/\W.cell? ⟨b4,0,none⟩=some (atC W b4 0)/\W.frozen? ⟨b4,0,none⟩=false/\W.cell? ⟨b4,1,none⟩=some (atC W b4 1)/\W.frozen? ⟨b4,1,none⟩=false/\W.cell? ⟨b4,2,none⟩=some (atC W b4 2)/\W.frozen? ⟨b4,2,none⟩=false):=Hd (fun W H=>⟨H.known.cell 11 aM.1,H.known.cell 12 aM.2,H.there.at_ 0 (by omega),H.there.free 0,H.there.at_ 1 (by omega),H.there.free 1,H.there.at_ 2 (by omega),H.there.free 2⟩);go_upto_region 9 with fail;clear bC bU ca bH b2 bD ba a3 bb;obtain⟨bx,aT,bj,bo,bl,bs,bt,bw⟩:=ai.o h aG;first
    |(go_region_held (fun W=>W.cell? ⟨K,11,none⟩=some (.slice O stk.length L)/\W.cell? ⟨K,12,none⟩=some (.slice N loc.length M)/\W.cell? ⟨b4,0,none⟩=some (atC W b4 0)/\W.frozen? ⟨b4,0,none⟩=false/\W.cell? ⟨b4,1,none⟩=some (atC W b4 1)/\W.frozen? ⟨b4,1,none⟩=false/\W.cell? ⟨b4,2,none⟩=some (atC W b4 2)/\W.frozen? ⟨b4,2,none⟩=false) ((refine ai.o _ ?_;(with_reducible repeat (first|assumption|refine Znw ?_|refine ZrL _ _ ?_)))) (fail))
    |fail
    all_goals
     have T:Only (fun i=>i=b4) h ((((h.setCell ⟨b4,0,none⟩ (.bool true)).setCell ⟨b4,1,none⟩ (.slice O stk.length L)).setCell ⟨b4,2,none⟩ (.slice N loc.length M)).drew):=((((Yak (fun i=>i=b4) h).setCell (p:=⟨b4,0,none⟩) rfl _).setCell (p:=⟨b4,1,none⟩) rfl _).setCell (p:=⟨b4,2,none⟩) rfl _).drew;have l:=ZaS (P:=prog) (w:=((((h.setCell ⟨b4,0,none⟩ (.bool true)).setCell ⟨b4,1,none⟩ (.slice O stk.length L)).setCell ⟨b4,2,none⟩ (.slice N loc.length M)).drew)) (cs:=#[.bool true,.slice O stk.length L,.slice N loc.length M]) (((bW.o.set 0 (.bool true)).set 1 (.slice O stk.length L)).set 2 (.slice N loc.length M)) underlying30 rfl ZeX;have ak:Below w.heap.size w ((((h.setCell ⟨b4,0,none⟩ (.bool true)).setCell ⟨b4,1,none⟩ (.slice O stk.length L)).setCell ⟨b4,2,none⟩ (.slice N loc.length M)).drew):=av.o.trans (T.below av.o.size (fun i e=>by rw[e];exact aJ.o));have bZ:=bz.o.keep T (fun g ab e=>by have aU:=(bz.o.own g ab).1;have aV:=Y.o.x4.lt;omega);have b6:=bO.o.keep T (fun g ab e=>by have aU:=(bO.o.own g ab).1;have aV:=Y.o.x4.lt;omega);have aE:Hid (DoG (doR stk loc er) w (.returned (.tuple #[.agg #[.bool true,.slice O stk.length L,.slice N loc.length M],.int .i64 0])) ((((h.setCell ⟨b4,0,none⟩ (.bool true)).setCell ⟨b4,1,none⟩ (.slice O stk.length L)).setCell ⟨b4,2,none⟩ (.slice N loc.length M)).drew)):=Hd (by
      rw[b1.o,Yay trivial];exact⟨_,rfl,⟨_,_,rfl,StrR.st.any (bZ.src Za2),StrR.st.any (b6.src Za2)⟩,ak⟩)
     clear bZ b6 ak T;go_wp2;refine bodyPost_ret (v:=.tuple #[.agg #[.bool true,.slice O stk.length L,.slice N loc.length M],.int .i64 0]) ?_ rfl aE.o;simp only[results,results9];simp[asAddr,l]
   ·have bi:¬((d:Int)=0):=by omega
    have cc:((d:Int) != 0)=true:=by simpa using bi
    have aG:=aZ.o;have bF:(cs.setIfInBounds 13 (.int .i64 (d:Nat)))[13]?=some (.int .i64 (d:Nat)):=by rw[YaD,Yay rfl,Yay (by omega)]
    have ai:Hid (∀W,BX K b4 (cs.setIfInBounds 13 (.int .i64 (d:Nat))) 3 58 W->W.cell? ⟨K,13,none⟩=some (.int .i64 (d:Nat))/\W.cell? ⟨b4,0,none⟩=some (atC W b4 0)/\W.frozen? ⟨b4,0,none⟩=false/\W.cell? ⟨b4,1,none⟩=some (atC W b4 1)/\W.frozen? ⟨b4,1,none⟩=false/\W.cell? ⟨b4,2,none⟩=some (atC W b4 2)/\W.frozen? ⟨b4,2,none⟩=false):=Hd (fun W H=>⟨H.known.cell 13 bF,H.there.at_ 0 (by omega),H.there.free 0,H.there.at_ 1 (by omega),H.there.free 1,H.there.at_ 2 (by omega),H.there.free 2⟩);go_upto_region 8 with fail;clear bC bU ca bH b2 bD ba a3 bb;obtain⟨bx,bj,bo,bl,bs,bt,bw⟩:=ai.o h aG;first
    |(go_region_held (fun W=>W.cell? ⟨K,13,none⟩=some (.int .i64 (d:Nat))/\W.cell? ⟨b4,0,none⟩=some (atC W b4 0)/\W.frozen? ⟨b4,0,none⟩=false/\W.cell? ⟨b4,1,none⟩=some (atC W b4 1)/\W.frozen? ⟨b4,1,none⟩=false/\W.cell? ⟨b4,2,none⟩=some (atC W b4 2)/\W.frozen? ⟨b4,2,none⟩=false) ((refine ai.o _ ?_;(with_reducible repeat (first|assumption|refine Znw ?_|refine ZrL _ _ ?_)))) (fail))
    |fail
    all_goals
     have T:Only (fun i=>i=b4) h ((((h.setCell ⟨b4,0,none⟩ (.bool false)).setCell ⟨b4,1,none⟩ (.slice none 0 0)).setCell ⟨b4,2,none⟩ (.slice none 0 0)).drew):=((((Yak (fun i=>i=b4) h).setCell (p:=⟨b4,0,none⟩) rfl _).setCell (p:=⟨b4,1,none⟩) rfl _).setCell (p:=⟨b4,2,none⟩) rfl _).drew;have l:=ZaS (P:=prog) (w:=((((h.setCell ⟨b4,0,none⟩ (.bool false)).setCell ⟨b4,1,none⟩ (.slice none 0 0)).setCell ⟨b4,2,none⟩ (.slice none 0 0)).drew)) (cs:=#[.bool false,.slice none 0 0,.slice none 0 0]) (((bW.o.set 0 (.bool false)).set 1 (.slice none 0 0)).set 2 (.slice none 0 0)) underlying30 rfl ZeX;have ak:Below w.heap.size w ((((h.setCell ⟨b4,0,none⟩ (.bool false)).setCell ⟨b4,1,none⟩ (.slice none 0 0)).setCell ⟨b4,2,none⟩ (.slice none 0 0)).drew):=av.o.trans (T.below av.o.size (fun i e=>by rw[e];exact aJ.o));have aE:Hid (DoG (doR stk loc er) w (.returned (.tuple #[.agg #[.bool false,.slice none 0 0,.slice none 0 0],.int .i64 (d:Nat)])) ((((h.setCell ⟨b4,0,none⟩ (.bool false)).setCell ⟨b4,1,none⟩ (.slice none 0 0)).setCell ⟨b4,2,none⟩ (.slice none 0 0)).drew)):=Hd (by
      rw[b1.o,Yar aF];exact⟨_,rfl,⟨_,_,rfl,Src.nil,Src.nil⟩,ak⟩)
     clear ak T;go_wp2;refine bodyPost_ret (v:=.tuple #[.agg #[.bool false,.slice none 0 0,.slice none 0 0],.int .i64 (d:Nat)]) ?_ rfl aE.o;simp only[results,results9];simp[asAddr,l]
