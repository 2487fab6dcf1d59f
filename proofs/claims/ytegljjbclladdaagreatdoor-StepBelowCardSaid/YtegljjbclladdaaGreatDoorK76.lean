/- laws -/
import Derived.Test.YtegljjbclladdaaGreatDoorK33
import Derived.Test.YtegljjbclladdaaGreatDoorK75
set_option maxRecDepth 100000
set_option maxHeartbeats 16000000
namespace Go.Proofs.YtegljjbclladdaaGreatDoor
open Go.RowKit Proofs.Tryz
def ZhM (l:List (List UInt8))(n k:Nat):List Value:=(l.take k).map strV++List.replicate (n-k) (.string ⟨#[]⟩)
theorem Zpo {l:List (List UInt8)}{n k:Nat}{x:List UInt8}(c:l.length=n)(a:l[k]?=some x):(ZhM l n k).set k (.string (S x))=ZhM l n (k+1):=by
 have d:k<n:=by rw[←c];exact(Yag.1 a).1
 have b:((l.take k).map strV).length=k:=by rw[YaB,YaA];omega
 unfold ZhM;rw[Ycw k _ (by omega),b,Ycz,show n-k=(n-(k+1))+1 by omega,List.replicate_succ,Ybu,YaK,a,Ya9,YaY];rfl
theorem Zpn {l:List (List UInt8)}{n:Nat}(a:l.length=n):ZhM l n n=l.map strV:=by
 unfold ZhM;rw[Ycz,List.replicate_zero,YaN,Yaz (by omega)]
structure JX (b1 o1 b2 o2:Nat) (v1 v2:Value) (g n:Nat) (t:TypeId) (w W:World):Prop where
 s1:W.cell? ⟨b1,o1,none⟩=some v1
 s2:W.cell? ⟨b2,o2,none⟩=some v2
 row:∃xs,MRow W g n t xs
 n1:b1≠g
 n2:b2≠g
 bel:Below w.heap.size w W
 ge:w.heap.size<=g
theorem Zj2 {i c f b:Nat}{h d:Value}{g n:Nat}{t:TypeId}{w W:World}(a:JX i c f b h d g n t w W):JX i c f b h d g n t w W.drew:=⟨a.s1,a.s2,a.row,a.n1,a.n2,Zab a.bel,a.ge⟩
theorem ZhC {l f j c:Nat}{k i:Value}{g n:Nat}{t:TypeId}{w W h:World}(d:Below W.heap.size W h)(a:JX l f j c k i g n t w W):JX l f j c k i g n t w h:=
 have b:=Yae (S:=fun _=>False) d
 ⟨b.cell a.s1 id,b.cell a.s2 id,let⟨xs,m⟩:=a.row;⟨xs,m.keep b id⟩,a.n1,a.n2,a.bel.trans (d.mono a.bel.size),a.ge⟩
theorem ZoB {l c j b:Nat}{k h:Value}{g n:Nat}{t:TypeId}{w W:World}(d:Nat)(u:Value)(a:JX l c j b k h g n t w W):JX l c j b k h g n t w (W.setCell ⟨g,d,none⟩ u):=
 have f:Only (fun i=>i=g) W (W.setCell ⟨g,d,none⟩ u):=(Yak (fun i=>i=g) W).setCell (p:=⟨g,d,none⟩) rfl u
 ⟨f.cell a.s1 a.n1,f.cell a.s2 a.n2,let⟨xs,m⟩:=a.row;⟨xs.set d u,m.set d u⟩,a.n1,a.n2,a.bel.setCell a.ge u,a.ge⟩
theorem JX.at_ {k d i c:Nat}{j h:Value}{g n:Nat}{t:TypeId}{w W:World}(l:JX k d i c j h g n t w W)(a:Nat)(b:a<n):W.cell? ⟨g,a,none⟩=some (atC W g a)/\W.frozen? ⟨g,a,none⟩=false:=by
 obtain⟨xs,f⟩:=l.row;refine⟨?_,f.free a⟩;unfold atC;rw[f.at_ a b,Yaa (by rw[f.len];exact b)];rfl
def Zh7 (l:List (List UInt8))(w:World)(e:Ending)(w':World):Prop:=∃v,e=.returned v/\KR w.heap.size w' v l/\Below w.heap.size w w'
theorem ZgW {A aR aQ:Nat->Prop}{B:Nat->Nat}{aF aP:Nat}{es:List Ent}{J:World}(am:Tab A J aF aP B es)(au:Shape es)(l p:List (List UInt8))(a b:Value)(w:World)(ax:Below J.heap.size J w)(aj:Src 1 StrR aR w a l)(ag:Src 1 StrR aQ w b p)
  (aL:l.length=p.length)(aJ:l.length<=1048576)(R:∀x∈l,x.length<=281474976710656)(ae:∀x∈p,x.length<=281474976710656) :
  Calls prog 38 #[.pointer (some ⟨aF,0,none⟩),a,b] w (Zh7 (ZbH es l p) w):=by
 obtain⟨a1,aW,rfl⟩:=aj.shape;obtain⟨aU,aX,rfl⟩:=ag.shape;have aE:=Hd (Src.elem aj);have aA:=Hd (Src.elem ag);obtain⟨n,y⟩:∃n,n=l.length:=⟨_,rfl⟩
 have I:n=p.length:=by omega
 rw[←y]at aJ⊢;rw[←I];have z:=Hd y;have ab:=Hd I;have aG:Hid (∀x d W,x∈l->d∈p->Below J.heap.size J W->Calls prog 99 #[.pointer (some ⟨aF,0,none⟩),.string (S x),.string (S d)] W (Zcc (ZgB es x d) W)):=Hd (fun x d W t s ak=>ZoA am au x d W ak (R x t) (ae d s));obtain⟨L,aa,Q,af,V⟩:=info_parts ZcS;obtain⟨aV,ap,c,ad⟩:=Zcq (P:=prog) 22 9 L (.string ⟨#[]⟩) underlying22 aa Q af rfl n (by rw[V];omega) (by unfold maxLen;omega) w;have T:=Hd c;have aw:=Hd ad;have ar:=Hd ax;unfold Zh7;clear aj ag y I aL R ae aa Q af V c ad ax am au;go_enter func38,ntmps38
 go_wp2_with fail;obtain⟨g,ai⟩:∃g,g=w.heap.size:=⟨_,rfl⟩
 have N:=Hd ai;rw[←ai]at T⊢;obtain⟨M,al⟩:∃M,M=ZbH es l p:=⟨_,rfl⟩
 have O:=Hd al;have K:Hid (M.length=n):=Hd (by rw[al,Zf3 (by rw[←z.o];exact ab.o),←z.o]);clear ap ai al;go_loopw [14] (fun G wr=>∃k:Nat,k<=n/\G=.int .i64 k/\MRow wr g n 9 (ZhM M n k)/\Below w.heap.size w wr) (fun G _=>n-(intOf G).toNat)
 case atStart=>exact⟨0,Yao _,rfl,by unfold ZhM;rw[Yb0,Ycu,Ybq,Nat.sub_zero];exact T.o,aw.o⟩
 case round=>
  obtain⟨k,aY,rfl,c,U⟩:=hrel;have C:=Hd c;have D:=Hd U;clear c U;by_cases q:k<n
  ·obtain⟨x,t⟩:∃x,l[k]?=some x:=⟨_,Yaa (by rw[←z.o];exact q)⟩
   obtain⟨d,s⟩:∃d,p[k]?=some d:=⟨_,Yaa (by rw[←ab.o];exact q)⟩
   obtain⟨h,m,a0,rfl,aB,_,v⟩:=aE.o k x t;obtain⟨f,j,aZ,rfl,ay,_,E⟩:=aA.o k d s;obtain rfl:=aB;obtain rfl:=ay;have F:=Yae (S:=fun _=>False) D.o;have av:wr.cell? ⟨h,m+k,none⟩=some (.string (S x)):=F.cell (a:=⟨h,m+k,none⟩) (by have r:=v 0 _ rfl;rw[YaH]at r;exact r) id;have ao:wr.cell? ⟨f,j+k,none⟩=some (.string (S d)):=F.cell (a:=⟨f,j+k,none⟩) (by have r:=E 0 _ rfl;rw[YaH]at r;exact r) id;have H:Hid (∀W,Below w.heap.size w W->Calls prog 99 #[.pointer (some ⟨aF,0,none⟩),.string (S x),.string (S d)] W (Zcc (ZgB es x d) W)):=Hd (fun W ak=>aG.o x d W (Yaf t) (Yaf s) (ar.o.trans (ak.mono ar.o.size)));have ac:Hid (M[k]?=some (ZgB es x d)):=Hd (by rw[O.o];exact ZqK t s);unfold Zcc at H;generalize ZgB es x d=aH at H ac;have aT:(0:Int)<=(k:Int):=by omega
   have aS:(k:Int)<(n:Int):=by omega
   have l1:h<w.heap.size:=World.block_lt_of_cell? w ⟨h,m+k,none⟩ (by have r:=v 0 _ rfl;rw[YaH]at r;exact r);have l2:f<w.heap.size:=World.block_lt_of_cell? w ⟨f,j+k,none⟩ (by have r:=E 0 _ rfl;rw[YaH]at r;exact r);have L:JX h (m+k) f (j+k) (.string (S x)) (.string (S d)) g n 9 w wr:=⟨av,ao,⟨_,C.o⟩,by have:=N.o;omega,by have:=N.o;omega,D.o,by rw[N.o];exact Yad _⟩;have Y:Hid (∀W,JX h (m+k) f (j+k) (.string (S x)) (.string (S d)) g n 9 w W->W.cell? ⟨h,m+k,none⟩=some (.string (S x))/\W.cell? ⟨f,j+k,none⟩=some (.string (S d))/\W.cell? ⟨g,k,none⟩=some (atC W g k)/\W.frozen? ⟨g,k,none⟩=false):=Hd (fun W u=>⟨u.s1,u.s2,(u.at_ k q).1,(u.at_ k q).2⟩);have aq:Hid (∀W,JX h (m+k) f (j+k) (.string (S x)) (.string (S d)) g n 9 w W->Below w.heap.size w W):=Hd (fun W u=>u.bel);obtain⟨aN,aI,aO,aM⟩:=Y.o wr L;clear v E t s F av ao l1 l2
   go_upto_region 5 with fail;first
   |(go_region_held (fun W=>W.cell? ⟨h,m+k,none⟩=some (.string (S x))/\W.cell? ⟨f,j+k,none⟩=some (.string (S d))/\W.cell? ⟨g,k,none⟩=some (atC W g k)/\W.frozen? ⟨g,k,none⟩=false) ((refine Y.o _ ?_;(with_reducible repeat (first|assumption|refine Zj2 ?_|(apply ZhC;assumption)|refine ZoB _ _ ?_))))
     ((go_at_call 99;(with_reducible refine(H.o _ ?_).mono ?_);(focus (refine aq.o _ ?_;(with_reducible repeat (first|assumption|refine Zj2 ?_|(apply ZhC;assumption)|refine ZoB _ _ ?_));done));rintro en w2⟨rfl,Z⟩)))
   |fail
   all_goals
    have ah:JX h (m+k) f (j+k) (.string (S x)) (.string (S d)) g n 9 w w2:=by(with_reducible repeat (first|assumption|refine Zj2 ?_|(apply ZhC;assumption)|refine ZoB _ _ ?_))
    have X:MRow w2 g n 9 (ZhM M n k):=MRow.keep (w:=wr.drew) C.o (Yae (S:=fun _=>False) Z) id;have aC:Hid (MRow (w2.setCell ⟨g,k,none⟩ (.string (S aH))) g n 9 (ZhM M n (k+1))):=Hd (by
     have u:=X.set k (.string (S aH));rw[Zpo K.o ac.o]at u;exact u)
    have az:Hid (Below w.heap.size w (w2.setCell ⟨g,k,none⟩ (.string (S aH)))):=Hd (ah.bel.setCell ah.ge _);clear X Z ah L aN aI aO aM;go_wp2;go_roundw
    case rel=>exact⟨k+1,by omega,by go_num,aC.o,az.o⟩
    case measure=>simp[intOf];omega
  ·obtain rfl:n=k:=by omega
   have aD:Hid (KR w.heap.size wr (.slice (some ⟨g,0,none⟩) n n) M):=Hd (by
    have u:MRow wr g n 9 (M.map strV):=by have r:=C.o;rw[Zpn K.o]at r;exact r
    unfold KR KRF;rw[K.o];exact Zfw u (fun i aK=>by obtain rfl:g=i:=Yac aK;rw[N.o];exact Yad _))
   go_wp2;go_ret;exact⟨_,rfl,by rw[←O.o];exact aD.o,D.o⟩
theorem Zqf {W:World}{g n:Nat}{cs:Array Value}{t:TypeId}(b:Box W g cs t)(a:cs.size=n)(c:n<=100):MRow W g n t cs.toList:=
 ⟨by simp[a],.inr ⟨g,n,cs,rfl,Yao _,b,Yad _,by unfold maxLen;omega,by simp[a],by rw[Yaz (by simp[a])]⟩⟩
theorem ShpR.shape {A:Nat->Prop}{w:World}{s:Shp}{v:Value}(i:ShpR A w s v):∃d c lo f,v=.agg #[.bool s.seen,.slice d s.stk.length c,.slice lo s.loc.length f]:=by
 obtain⟨a,b,rfl,g,h⟩:=i;obtain⟨d,c,rfl⟩:=g.shape;obtain⟨lo,f,rfl⟩:=h.shape;exact⟨_,_,_,_,rfl⟩
theorem Zfb {w a:World}{R:Nat}{k m l:Value}(n:Box a R #[k,m,l] 30)(f:Below w.heap.size w a)(j:w.heap.size<=R)(b d c:Value):∃h,h=(((a.setCell ⟨R,0,none⟩ b).setCell ⟨R,1,none⟩ d).setCell ⟨R,2,none⟩ c)/\
  (loadVar 30 ⟨R,0,none⟩).run prog h=.ok (.agg #[b,d,c]) h/\Only (fun i=>i=R) a h/\Below w.heap.size w h:=by
 have g:Only (fun i=>i=R) a (((a.setCell ⟨R,0,none⟩ b).setCell ⟨R,1,none⟩ d).setCell ⟨R,2,none⟩ c):=(((Yak (fun i=>i=R) a).setCell (p:=⟨R,0,none⟩) rfl _).setCell (p:=⟨R,1,none⟩) rfl _).setCell (p:=⟨R,2,none⟩) rfl _;exact⟨_,rfl,ZaS (P:=prog) (((n.set 0 b).set 1 d).set 2 c) underlying30 rfl ZeX,g,f.trans (g.below f.size (fun i e=>by rw[e];exact j))⟩
theorem Zl6 {A bs br:Nat->Prop}{B:Nat->Nat}{aZ bq:Nat}{es:List Ent}{aY:World}(aO:Tab A aY aZ bq B es)(aU:Shape es)(a b:Shp)(u v:Value)(w:World)(av:Below aY.heap.size aY w)(a7:ShpR bs w a u)(a0:ShpR br w b v)(G:a.Small)(ad:b.Small) :
  Calls prog 14 #[.pointer (some ⟨aZ,0,none⟩),u,v] w (DoG (ZiY es a b) w):=by
 have ay:Hid (∀W,Below w.heap.size w W->Calls prog 37 #[u] W (Zex a W)):=Hd (fun W F=>ZgM a u W (ShpR.below a7 F) G);have aC:Hid (∀W,Below w.heap.size w W->Calls prog 37 #[v] W (Zex b W)):=Hd (fun W F=>ZgM b v W (ShpR.below a0 F) ad);obtain⟨a1,bi,rfl,az,am⟩:=a7;obtain⟨bk,bb,rfl,au,K⟩:=a0;have ar:Hid (a.stk.length=b.stk.length->∀W,Below w.heap.size w W->Calls prog 38 #[.pointer (some ⟨aZ,0,none⟩),a1,bk] W (Zh7 (ZbH es a.stk b.stk) W)):=Hd (fun E W F=>
  ZgW aO aU a.stk b.stk a1 bk W (av.trans (F.mono av.size)) (StrR.st.below az F) (StrR.st.below au F) E G.n1 G.k1 ad.k1)
 have ak:Hid (a.loc.length=b.loc.length->∀W,Below w.heap.size w W->Calls prog 38 #[.pointer (some ⟨aZ,0,none⟩),bi,bb] W (Zh7 (ZbH es a.loc b.loc) W)):=Hd (fun E W F=>
  ZgW aO aU a.loc b.loc bi bb W (av.trans (F.mono av.size)) (StrR.st.below am F) (StrR.st.below K F) E G.n2 G.k2 ad.k2)
 obtain⟨U,ab,rfl⟩:=az.shape;obtain⟨Z,ac,rfl⟩:=am.shape;obtain⟨T,X,rfl⟩:=au.shape;obtain⟨ae,aa,rfl⟩:=K.shape;have aD:Hid (a.stk.length<=9223372036854775807):=Hd (by have:=G.n1;omega);obtain⟨N,d,i⟩:=a;obtain⟨s,f,j⟩:=b;simp only at ay aC ar ak aD⊢;obtain⟨aI,aF⟩:∃aI,aI=ZiY es ⟨N,d,i⟩ ⟨s,f,j⟩:=⟨_,rfl⟩
 rw[←aF];unfold Zex at ay aC;unfold Zh7 at ar ak;unfold ZiY at aF;simp only at aF;have aA:=Hd aF;clear aF az am au K av aO aU G ad;obtain⟨bh,Y⟩:∃V,V=(((w.alloc (.cells #[.bool N,.slice U d.length ab,.slice Z i.length ac] 30)).alloc (.cells #[.bool s,.slice T f.length X,.slice ae j.length aa] 30)).alloc (.cells #[.bool false,.slice none 0 0,.slice none 0 0] 30)):=⟨_,rfl⟩
 have aK:∀(k:Nat) (cs:Array Value),(((w.alloc (.cells #[.bool N,.slice U d.length ab,.slice Z i.length ac] 30)).alloc (.cells #[.bool s,.slice T f.length X,.slice ae j.length aa] 30)).alloc (.cells #[.bool false,.slice none 0 0,.slice none 0 0] 30)).heap[k]?=some (.cells cs 30 (0,0))->Box bh k cs 30:=fun k cs a2=>by rw[Y];exact a2
 have P:=Hd (aK w.heap.size #[.bool N,.slice U d.length ab,.slice Z i.length ac] (by repeat (first|(exact Zam _ _ _ (by simp))|(with_reducible apply Zaz))));have O:=Hd (aK (w.heap.size+1) #[.bool s,.slice T f.length X,.slice ae j.length aa] (by repeat (first|(exact Zam _ _ _ (by simp))|(with_reducible apply Zaz))));have c:=Hd (aK (w.heap.size+1+1) #[.bool false,.slice none 0 0,.slice none 0 0] (by repeat (first|(exact Zam _ _ _ (by simp))|(with_reducible apply Zaz))));have m:Hid (Below w.heap.size w bh):=Hd (by rw[Y];exact Zaa (Zaa (Zaa (Yab _ _) _) _) _);have ag:=Hd c.o.lt;clear aK;go_enter func14,ntmps14
 go_upto_region 1 with fail;rw[←Y];clear Y;obtain⟨aR,aP,aV⟩:_/\_/\_:=⟨P.o.cell 0 rfl,P.o.cell 1 rfl,P.o.cell 2 rfl⟩;obtain⟨aQ,aT,aS⟩:_/\_/\_:=⟨O.o.cell 0 rfl,O.o.cell 1 rfl,O.o.cell 2 rfl⟩;cases N
 ·have p:Hid (aI=(⟨s,f,j⟩,0)):=Hd (by rw[aA.o];rfl);go_wp2_with fail;with_reducible refine(aC.o _ m.o).mono ?_
  rintro e ao⟨bl,bm,rfl,z,C,b4⟩;obtain⟨r,y,rfl⟩:=z.shape;obtain⟨x,t,rfl⟩:=C.shape;have h:=Hd (c.o.below b4);have ah:=Hd (m.o.trans (b4.mono m.o.size));have M:=Hd z;have L:=Hd C;clear z C b4 aR aP aV aQ aT aS;have ai:=h.o.cell 0 rfl;have ax:=h.o.cell 1 rfl;have aH:=h.o.cell 2 rfl;have al:=h.o.free 0;have aB:=h.o.free 1;have aj:=h.o.free 2;go_wp2;obtain⟨aq,q,l,H,n⟩:=Zfb h.o ah.o (show w.heap.size<=w.heap.size+1+1 by omega) (.bool s) (.slice r f.length y) (.slice x j.length t);rw[←q];refine bodyPost_ret (v:=.tuple #[.agg #[(.bool s),(.slice r f.length y),(.slice x j.length t)],.int .i64 0]) ?_ rfl (by rw[p.o];exact⟨_,rfl,⟨_,_,rfl,StrR.st.any ((M.o.keep H (fun g D e=>by have aw:=(M.o.own g D).1;have aE:=ag.o;omega)).src Za2),StrR.st.any ((L.o.keep H (fun g D e=>by have aw:=(L.o.own g D).1;have aE:=ag.o;omega)).src Za2)⟩,n⟩);simp only[results,results14];simp[asAddr,l]
 cases s
 ·have p:Hid (aI=(⟨true,d,i⟩,0)):=Hd (by rw[aA.o];rfl);go_wp2_with fail;with_reducible refine(ay.o _ m.o).mono ?_
  rintro e ao⟨bl,bm,rfl,z,C,b4⟩;obtain⟨r,y,rfl⟩:=z.shape;obtain⟨x,t,rfl⟩:=C.shape;have h:=Hd (c.o.below b4);have ah:=Hd (m.o.trans (b4.mono m.o.size));have M:=Hd z;have L:=Hd C;clear z C b4 aR aP aV aQ aT aS;have ai:=h.o.cell 0 rfl;have ax:=h.o.cell 1 rfl;have aH:=h.o.cell 2 rfl;have al:=h.o.free 0;have aB:=h.o.free 1;have aj:=h.o.free 2;go_wp2;obtain⟨aq,q,l,H,n⟩:=Zfb h.o ah.o (show w.heap.size<=w.heap.size+1+1 by omega) (.bool true) (.slice r d.length y) (.slice x i.length t);rw[←q];refine bodyPost_ret (v:=.tuple #[.agg #[(.bool true),(.slice r d.length y),(.slice x i.length t)],.int .i64 0]) ?_ rfl (by rw[p.o];exact⟨_,rfl,⟨_,_,rfl,StrR.st.any ((M.o.keep H (fun g D e=>by have aw:=(M.o.own g D).1;have aE:=ag.o;omega)).src Za2),StrR.st.any ((L.o.keep H (fun g D e=>by have aw:=(L.o.own g D).1;have aE:=ag.o;omega)).src Za2)⟩,n⟩);simp only[results,results14];simp[asAddr,l]
 by_cases E:d.length=f.length
 case neg=>
  have p:Hid (aI=(Shp.zero,75)):=Hd (by rw[aA.o,Yar (by simp),Yar (by simp),Yar (fun a2=>E a2.1)]);have ba:((d.length:Int) != (f.length:Int))=true:=by rw[bne_iff_ne];omega
  clear E;have ai:=c.o.cell 0 rfl;have ax:=c.o.cell 1 rfl;have aH:=c.o.cell 2 rfl;have al:=c.o.free 0;have aB:=c.o.free 1;have aj:=c.o.free 2;go_wp2;obtain⟨aq,q,l,H,n⟩:=Zfb c.o m.o (show w.heap.size<=w.heap.size+1+1 by omega) (.bool false) (.slice none 0 0) (.slice none 0 0);rw[←q];refine bodyPost_ret (v:=.tuple #[.agg #[(.bool false),(.slice none 0 0),(.slice none 0 0)],.int .i64 75]) ?_ rfl (by rw[p.o];exact⟨_,rfl,⟨_,_,rfl,Src.nil,Src.nil⟩,n⟩);simp only[results,results14];simp[asAddr,l]
 by_cases I:i.length=j.length
 case neg=>
  have p:Hid (aI=(Shp.zero,75)):=Hd (by rw[aA.o,Yar (by simp),Yar (by simp),Yar (fun a2=>I a2.2)]);have ba:((d.length:Int) != (f.length:Int))=false:=by rw[bne_eq_false_iff_eq];omega
  have K:((i.length:Int) != (j.length:Int))=true:=by rw[bne_iff_ne];omega
  clear E I;have ai:=c.o.cell 0 rfl;have ax:=c.o.cell 1 rfl;have aH:=c.o.cell 2 rfl;have al:=c.o.free 0;have aB:=c.o.free 1;have aj:=c.o.free 2;go_wp2;obtain⟨aq,q,l,H,n⟩:=Zfb c.o m.o (show w.heap.size<=w.heap.size+1+1 by omega) (.bool false) (.slice none 0 0) (.slice none 0 0);rw[←q];refine bodyPost_ret (v:=.tuple #[.agg #[(.bool false),(.slice none 0 0),(.slice none 0 0)],.int .i64 75]) ?_ rfl (by rw[p.o];exact⟨_,rfl,⟨_,_,rfl,Src.nil,Src.nil⟩,n⟩);simp only[results,results14];simp[asAddr,l]
 have J:Hid (aI=if Zk5 (ZbH es d f)=true then(Shp.zero,75)else(⟨true,ZbH es d f,ZbH es i j⟩,0)):=Hd (by rw[aA.o,Yar (by simp),Yar (by simp),Yay ⟨E,I⟩]);have Q:Hid (∀W,Below w.heap.size w W->Calls prog 38 #[.pointer (some ⟨aZ,0,none⟩),.slice U d.length ab,.slice T f.length X] W (fun e w'=>∃v,e=.returned v/\KR W.heap.size w' v (ZbH es d f)/\Below W.heap.size W w')):=Hd (ar.o E);have ap:Hid (∀W,Below w.heap.size w W->Calls prog 38 #[.pointer (some ⟨aZ,0,none⟩),.slice Z i.length ac,.slice ae j.length aa] W (fun e w'=>∃v,e=.returned v/\KR W.heap.size w' v (ZbH es i j)/\Below W.heap.size W w')):=Hd (ak.o I);have aG:Hid ((ZbH es d f).length=d.length):=Hd (Zf3 E);have aX:Hid ((ZbH es i j).length=i.length):=Hd (Zf3 I);generalize ZbH es d f=af at J Q aG;generalize ZbH es i j=aW at J ap aX;have ba:((d.length:Int) != (f.length:Int))=false:=by rw[bne_eq_false_iff_eq];omega
 have K:((i.length:Int) != (j.length:Int))=false:=by rw[bne_eq_false_iff_eq];omega
 clear E I;go_wp2_with fail;with_reducible refine(Q.o _ m.o).mono ?_
 rintro e ao⟨a4,rfl,z,b4⟩;have aM:Hid (Calls prog 39 #[a4,.string ⟨#[]⟩] ao (Said (Zk5 af) ao)):=Hd (Zff af [] a4 ao (z.src Za2) (by rw[aG.o];exact aD.o));obtain⟨r,y,rfl⟩:=z.shape;have M:=Hd z;have a3:=Hd (P.o.below b4);have bd:=Hd (O.o.below b4);have a9:=Hd (c.o.below b4);have bg:=Hd (m.o.trans (b4.mono m.o.size));have bf:=Hd b4.size;clear z b4 P O c Q aR aP aV aQ aT aS;go_wp2_with fail;with_reducible refine aM.o.mono ?_
 rintro e bo⟨rfl,b5⟩;have a5:=Hd (M.o.below b5);have bj:=(a3.o.below b5).cell 2 rfl;have bc:=(bd.o.below b5).cell 2 rfl;have h:=Hd (a9.o.below b5);have aJ:=Hd (bg.o.trans (b5.mono bg.o.size));have a8:=Hd b5.size;clear b5 aM a3 bd a9 M;cases aN:Zk5 af with
 |true=>
  have p:Hid (aI=(Shp.zero,75)):=Hd (by rw[J.o,aN];rfl);clear bj bc;have ai:=h.o.cell 0 rfl;have ax:=h.o.cell 1 rfl;have aH:=h.o.cell 2 rfl;have al:=h.o.free 0;have aB:=h.o.free 1;have aj:=h.o.free 2;go_wp2;obtain⟨aq,q,l,H,n⟩:=Zfb h.o aJ.o (show w.heap.size<=w.heap.size+1+1 by omega) (.bool false) (.slice none 0 0) (.slice none 0 0);rw[←q];refine bodyPost_ret (v:=.tuple #[.agg #[(.bool false),(.slice none 0 0),(.slice none 0 0)],.int .i64 75]) ?_ rfl (by rw[p.o];exact⟨_,rfl,⟨_,_,rfl,Src.nil,Src.nil⟩,n⟩);simp only[results,results14];simp[asAddr,l]
 |false=>
  have p:Hid (aI=(⟨true,af,aW⟩,0)):=Hd (by rw[J.o,aN];rfl);go_wp2_with fail;with_reducible refine(ap.o bo aJ.o).mono ?_
  rintro e bu⟨bt,rfl,C,aL⟩;obtain⟨x,t,rfl⟩:=C.shape;have a6:=Hd (a5.o.below aL);have L:=Hd C;have R:=Hd (h.o.below aL);have ah:=Hd (aJ.o.trans (aL.mono aJ.o.size));clear bj bc aL C h a5;have ai:=R.o.cell 0 rfl;have ax:=R.o.cell 1 rfl;have aH:=R.o.cell 2 rfl;have al:=R.o.free 0;have aB:=R.o.free 1;have aj:=R.o.free 2;go_wp2;obtain⟨aq,q,l,H,n⟩:=Zfb R.o ah.o (show w.heap.size<=w.heap.size+1+1 by omega) (.bool true) (.slice r af.length y) (.slice x aW.length t);rw[←q];refine bodyPost_ret (v:=.tuple #[.agg #[(.bool true),(.slice r af.length y),(.slice x aW.length t)],.int .i64 0]) ?_ rfl (by rw[p.o];exact⟨_,rfl,⟨_,_,rfl,StrR.st.any ((a6.o.keep H (fun g D e=>by have aw:=(a6.o.own g D).1;have aE:=ag.o;have bn:=bf.o;have bp:=a8.o;omega)).src Za2),StrR.st.any ((L.o.keep H (fun g D e=>by have aw:=(L.o.own g D).1;have aE:=ag.o;have bn:=bf.o;have bp:=a8.o;omega)).src Za2)⟩,n⟩);simp only[results,results14];simp[asAddr,l]
