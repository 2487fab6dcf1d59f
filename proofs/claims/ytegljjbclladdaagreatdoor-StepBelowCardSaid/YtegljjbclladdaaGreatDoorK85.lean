/- laws -/
import Derived.Test.YtegljjbclladdaaGreatDoorK35
import Derived.Test.YtegljjbclladdaaGreatDoorK84
set_option maxRecDepth 100000
set_option maxHeartbeats 16000000
namespace Go.Proofs.YtegljjbclladdaaGreatDoor
open Go.RowKit Proofs.Tryz
def ZdI (n:Int)(loc:List (List UInt8)):Bool:=decide (0<=n)&&decide (n<(loc.length:Int))
def Zfo (n:Int)(loc:List (List UInt8)):List UInt8:=if 0<=n then loc.getD n.toNat []else[]
def ZiU (n:Int):OpM:=⟨fun loc=>if ZdI n loc=true then(if Zfo n loc=[]then 74 else 0)else 74,0,fun _ _=>true,fun _ loc=>[Zfo n loc],none⟩
def Zgt (n:Int):OpM:=⟨fun loc=>if ZdI n loc=true then 0 else 74,1,fun _ _=>true,fun _ _=>[],if 0<=n then some n.toNat else none⟩
def LocG (f lo:Nat)(p:Nat->Option Value)(d:World)(n:Int)(stk loc:List (List UInt8))(er:Nat)(W:World)(e:Ending)(b:World):Prop:=
 (ZdI n loc=true/\∃g c,e=.returned (.pointer (some ⟨g,n.toNat,none⟩))/\b=W/\W.cell? ⟨f,12,none⟩=some (.slice (some ⟨g,0,none⟩) loc.length c))\/
 (ZdI n loc=false/\∃a,e=.returned (.pointer (some ⟨a.heap.size,0,none⟩))/\StW f lo p d a stk loc (reqE er false 74)/\Below lo W a/\b=a.alloc (.cells #[.string ⟨#[]⟩] 9))
theorem ZkY {L lo:Nat}{p:Nat->Option Value}{E W:World}{stk loc:List (List UInt8)}{er:Nat}(n:Int)(H:p 9=some (.int .i64 n))(A:StW L lo p E W stk loc er)(K:loc.length<=1000) :
  Calls prog 102 #[.pointer (some ⟨L,0,none⟩)] W (LocG L lo p E n stk loc er W):=by
 have B:=A.cell 9 (by decide) H;have d:=Hd (ZcK A false 74);obtain⟨cs,sv,V,b,f,F,u,G,v,D,q,C,s,t⟩:=A.ex;have h:=v.cell 12 u;obtain⟨X,U,j⟩:=q.shape;obtain⟨m,r⟩:∃m,m=loc.length:=⟨_,rfl⟩
 unfold LocG;rw[←r]at j K⊢;by_cases a:ZdI n loc=true
 ·have i:0<=n/\n<(m:Int):=by unfold ZdI at a;rw[←r]at a;simpa using a
  obtain⟨Q,T⟩:=i;obtain⟨g,c,z,R,M⟩:=q.there (by omega);obtain⟨k,rfl⟩:∃k:Nat,n=(k:Int):=⟨n.toNat,by omega⟩
  rw[z,←r]at h;have J:=Hd h;have N:k<m:=by omega
  have O:(m:Int)<=(c:Int):=by omega
  clear A b f F u G v D q C s t j d z;go_enter func102,ntmps102;go_wp2;go_ret;exact .inl ⟨a,g,c,by simp,rfl,J.o⟩
 ·have l:ZdI n loc=false:=by cases Y:ZdI n loc with|true=>exact absurd Y a|false=>rfl
  have i:¬(0<=n/\n<(m:Int)):=fun i=>a (by unfold ZdI;rw[←r,Yas i.1,Yas i.2];rfl);rw[j]at h;clear A b f F u G v D q C s t j a;by_cases I:n<0
  ·clear i;go_enter func102,ntmps102
   go_wp2_with fail;refine d.o.mono ?_;rintro e w⟨rfl,b,f⟩;have y:=Hd b;have x:=Hd f;clear b f B h d;go_wp2;go_ret;exact .inr ⟨l,w,rfl,y.o,x.o,rfl⟩
  ·have P:(m:Int)<=n:=by omega
   clear i;go_enter func102,ntmps102
   go_wp2_with fail;refine d.o.mono ?_;rintro e w⟨rfl,b,f⟩;have y:=Hd b;have x:=Hd f;clear b f B h d;go_wp2;go_ret;exact .inr ⟨l,w,rfl,y.o,x.o,rfl⟩
theorem ZkH {loc:List (List UInt8)}{lo g c:Nat}{W:World}(d:KR lo W (.slice (some ⟨g,0,none⟩) loc.length c) loc){k:Nat}{x:List UInt8}(a:loc[k]?=some x):W.cell? ⟨g,k,none⟩=some (.string (S x)):=by
 have b:=World.ownsRow.cells (g:=g) d rfl k (strV x) (by rw[Yav,a];rfl);rw[Ybn,Ya6]at b;exact b
theorem Zsn {ab lo:Nat}{p:Nat->Option Value}{G W:World}{stk loc:List (List UInt8)}(n:Int)(ag:p 9=some (.int .i64 n))(aq:StW ab lo p G W stk loc 0)(ak:stk.length<=1000)(R:loc.length<=1000)(ah:∀x∈loc,x.length<=1000000) :
  Calls prog 46 #[.pointer (some ⟨ab,0,none⟩)] W (OpG ab lo p G (ZiU n) stk loc W):=by
 have Y:=Hd (ZkY n ag aq R);unfold LocG at Y;have ao:=Hd aq;have ae:=Hd ak;have ar:=Hd ah;clear aq ak R ah ag;go_enter func46,ntmps46
 go_wp2_with fail;with_reducible refine Y.o.mono ?_
 rintro e ap (⟨f,g,c,rfl,rfl,N⟩|⟨f,q,rfl,F,T,rfl⟩)
 ·have r:0<=n/\n.toNat<loc.length:=by unfold ZdI at f;simp at f;omega
  obtain⟨x,P⟩:∃x,loc[n.toNat]?=some x:=⟨_,Yaa r.2⟩
  have h:Zfo n loc=x:=by unfold Zfo;rw[Yay r.1,Yap,P];rfl
  have C:=Hd (ar.o x (Yaf P));have l:Hid (∀V Z,StW ab lo p G V stk loc Z->V.cell? ⟨ab,12,none⟩=some (.slice (some ⟨g,0,none⟩) loc.length c)->V.cell? ⟨g,n.toNat,none⟩=some (.string (S x))):=Hd (fun V Z au Q=>by
   obtain⟨cs,sv,ay,j,t,af,s,u,k,aA,am,az,av,aw⟩:=au.ex;rw[k.cell 12 s]at Q;obtain rfl:=Yac Q;exact ZkH am P)
  have E:=l.o ap 0 ao.o N;by_cases i:x=[]
  ·have D:(ZiU n).e0 loc=74:=by show(if ZdI n loc=true then(if Zfo n loc=[]then 74 else 0)else 74)=74;rw[Yay f,Yay (by rw[h];exact i)]
   have X:S x=⟨#[]⟩:=by rw[i];rfl
   rw[X]at E l;have a:#[Value.string ⟨#[]⟩]=([x].map strV).toArray:=by rw[i];rfl
   have I:=Hd D;have v:=Hd h;have J:=Hd a;have d:=Hd (ZdM ao.o false 74);clear r P h i D a;go_wp2_with fail;refine d.o.mono ?_;rintro e w2⟨rfl,j,t,_,s⟩;have O:=l.o w2 _ j (s.trans N);have y:=Hd (ZaY (n:=1) j [x] #[.string (⟨#[]⟩)] J.o rfl (by simp) (by have:=ae.o;omega) (fun z w=>by simp only[Yai,Yat,or_false]at w;have:=C.o;rw[w];omega) 9);have B:=Hd t;clear j t s E d l N;go_wp2_with fail;refine y.o.mono ?_;rintro e K⟨rfl,u,k⟩;have L:=Hd u;have A:=Hd (B.o.trans k);clear u k y O;go_wp2;go_end0
   refine⟨rfl,?_,A.o⟩;have ai:=L.o;unfold OpM.stk OpM.loc OpM.er;rw[I.o,show(ZiU n).m=0 from rfl,Zcm,Zcl];show StW ab lo p G K (stk++[Zfo n loc]) loc _;rw[v.o];exact ai
  ·have D:(ZiU n).e0 loc=0:=by show(if ZdI n loc=true then(if Zfo n loc=[]then 74 else 0)else 74)=0;rw[Yay f,Yar (by rw[h];exact i)]
   have X:x.isEmpty=false:=by
    cases x with
    |nil=>exact absurd rfl i
    |cons _ _=>rfl
   have ax:=Zaf x;have a:#[Value.string (S x)]=([x].map strV).toArray:=rfl;have I:=Hd D;have v:=Hd h;have J:=Hd a;have d:=Hd (ZdM ao.o true 74);clear r P h i D a;go_wp2_with fail;refine d.o.mono ?_;rintro e w2⟨rfl,j,t,_,s⟩;have O:=l.o w2 _ j (s.trans N);have y:=Hd (ZaY (n:=1) j [x] #[.string (S x)] J.o rfl (by simp) (by have:=ae.o;omega) (fun z w=>by simp only[Yai,Yat,or_false]at w;have:=C.o;rw[w];omega) 9);have B:=Hd t;clear j t s E d l N;go_wp2_with fail;refine y.o.mono ?_;rintro e K⟨rfl,u,k⟩;have L:=Hd u;have A:=Hd (B.o.trans k);clear u k y O;go_wp2;go_end0
   refine⟨rfl,?_,A.o⟩;have ai:=L.o;unfold OpM.stk OpM.loc OpM.er;rw[I.o,show(ZiU n).m=0 from rfl,Zcm,Zcl];show StW ab lo p G K (stk++[Zfo n loc]) loc _;rw[v.o];exact ai
 ·have D:(ZiU n).e0 loc=74:=by show(if ZdI n loc=true then(if Zfo n loc=[]then 74 else 0)else 74)=74;rw[Yar (by rw[f];decide)]
  have h:Zfo n loc=[]:=by
   unfold Zfo;split
   ·rename_i al;have r:¬n.toNat<loc.length:=fun r=>by unfold ZdI at f;rw[Yas al,Yas (by omega)]at f;cases f
    rw[Yap,YaS (by omega)];rfl
   ·rfl
  have I:=Hd D;have v:=Hd h;have M:Below q.heap.size q (q.alloc (.cells #[.string ⟨#[]⟩] 9)):=Zaa (Yab _ _) _;have ad:=Box.new q #[.string ⟨#[]⟩] 9;have E:=ad.cell 0 rfl;have U:=F.lt;have d:=Hd (ZdM (F.under M) false 74);have aa:=Hd (T.trans (M.mono F.lo1));have H:=Hd ad;have C:=Hd U;clear D h M ad F T U;obtain⟨aj,ac⟩:∃aj,aj=q.alloc (.cells #[.string ⟨#[]⟩] 9):=⟨_,rfl⟩
  rw[←ac]at d aa H E⊢;clear ac;obtain⟨b,r⟩:∃b,b=q.heap.size:=⟨_,rfl⟩
  rw[←r]at H C E⊢;clear r;go_wp2_with fail;refine d.o.mono ?_;rintro e w2⟨rfl,j,t,af,s⟩;have O:=(H.o.keep af (fun e=>by have:=C.o;omega)).cell 0 rfl;have y:=Hd (ZaY (n:=1) j [[]] #[.string ⟨#[]⟩] rfl rfl (by simp) (by have:=ae.o;omega) (fun z w=>by simp only[Yai,Yat,or_false]at w;rw[w];simp) 9);have B:=Hd (aa.o.trans t);clear j t af s E d;go_wp2_with fail;refine y.o.mono ?_;rintro e K⟨rfl,u,k⟩;have L:=Hd u;have A:=Hd (B.o.trans k);clear u k y O;go_wp2;go_end0
  refine⟨rfl,?_,A.o⟩;have ai:=L.o;unfold OpM.stk OpM.loc OpM.er;rw[I.o,show(ZiU n).m=0 from rfl,Zcm,Zcl];show StW ab lo p G K (stk++[Zfo n loc]) loc _;rw[v.o];exact ai
theorem Ztd {lo g c:Nat}{W:World}{l:List (List UInt8)}(k:Nat)(x:List UInt8)(a:KR lo W (.slice (some ⟨g,0,none⟩) l.length c) l):KR lo (W.setCell ⟨g,k,none⟩ (.string (S x))) (.slice (some ⟨g,0,none⟩) l.length c) (l.set k x):=by
 unfold KR KRF at a⊢;have b:=(World.ownsRow.stored a k (.string (S x))).1;rw[YbT,List.map_set];exact b
theorem Zrq {ah lo:Nat}{p:Nat->Option Value}{Q W:World}{stk loc:List (List UInt8)}(n:Int)(aq:p 9=some (.int .i64 n))(aG:StW ah lo p Q W stk loc 0)(au:stk.length<=1000)(V:loc.length<=1000) :
  Calls prog 47 #[.pointer (some ⟨ah,0,none⟩)] W (OpG ah lo p Q (Zgt n) stk loc W):=by
 have D:=Hd (ZkY n aq aG V);unfold LocG at D;have aO:=Hd aG;have ar:=Hd au;clear aG au V aq;go_enter func47,ntmps47
 go_wp2_with fail;with_reducible refine D.o.mono ?_
 rintro e t (⟨f,g,c,rfl,rfl,az⟩|⟨f,r,rfl,d,ab,rfl⟩)
 ·have A:0<=n/\n.toNat<loc.length:=by unfold ZdI at f;simp at f;omega
  have M:(Zgt n).e0 loc=0:=by show(if ZdI n loc=true then 0 else 74)=0;rw[Yay f]
  have Z:(Zgt n).setl=some n.toNat:=by show(if 0<=n then some n.toNat else none)=_;rw[Yay A.1]
  have j:Below t.heap.size t (t.alloc (.cells #[.func (.func 104) #[] #[]] 107)):=Zaa (Yab _ _) _;have N:=Box.new t #[.func (.func 104) #[] #[]] 107;have h:=Hd (Zc3 aO.o j (by have:=ar.o;omega) t.heap.size 1 1 (by decide) (by decide) (fun i aJ=>by obtain rfl:i=0:=(by omega);exact N.cell 0 rfl) (Yad _));have ad:=Hd (j.mono aO.o.lo1);have aL:=Hd ((Yae (S:=fun _=>False) j).cell az id);obtain⟨x,C⟩:=Zgx stk 0;have ax:=Hd C;have al:=Hd M;have av:=Hd Z;unfold Tk7G at h;rw[C,show(t.alloc (.cells #[.func (.func 104) #[] #[]] 107)).heap.size=t.heap.size+1 by simp]at h;clear j N C az M Z A D;go_wp2_with fail;with_reducible refine h.o.mono ?_
  rintro e l⟨aM,rfl,w,d,_,y,s,_,aF,rfl,_,_⟩;obtain⟨b,o,u,O,am,_,v⟩:=Src.elem w 0 x rfl;obtain rfl:=am;simp only[Ya1,Ybz,and_true]at O;obtain⟨rfl,rfl⟩:=O;have aK:l.cell? ⟨t.heap.size+1,0,none⟩=some (.string (S x)):=by have aE:=v 0 _ rfl;rw[Ycc]at aE;exact aE
  have a:=d l (Yak _ _);have aa:=s.trans aL.o;obtain⟨cs,sv,aQ,ay,aB,ao,ak,ap,ae,aD,J,aC,L,H⟩:=a.ex;rw[ae.cell 12 ak]at aa;obtain rfl:=Yac aa;have Y:=J.own g rfl;obtain⟨aP,aw⟩:∃aP,loc[n.toNat]?=some aP:=⟨_,Yaa (by unfold ZdI at f;simp at f;omega)⟩
  have aN:=ZkH J aw;have aH:=J.free g 0 _ c rfl n.toNat;have z:Only (fun i=>i=g) l (l.setCell ⟨g,n.toNat,none⟩ (.string (S x))):=(Yak (fun i=>i=g) l).setCell (p:=⟨g,n.toNat,none⟩) rfl _;have F:Below lo l (l.setCell ⟨g,n.toNat,none⟩ (.string (S x))):=z.below a.lo1 (fun i e=>by rw[e];exact Y.1);have U:¬ah=g:=fun e=>L (by rw[e];rfl);have G:StW ah lo p Q (l.setCell ⟨g,n.toNat,none⟩ (.string (S x))) (Zb4 1 stk 0) (loc.set n.toNat x) (Zc2 1 (fun _ _=>true) stk 0):=by
   refine⟨⟨cs,sv,_,ay,aB,ao,ak,ap,ae.keep z U,aD.keep z (fun aI aA e=>H aI aA (by rw[e];rfl)),Ztd n.toNat x J,aC,L,H⟩,Yaj a.lo1 F.size,a.lo2,a.lo3,a.bel.trans (F.mono a.lo2)⟩
  have ai:=Hd G;have P:=Hd (ad.o.trans (y.trans F));clear w d y s a ay aB ao ak ap ae aD J aC L H Y aw z F U G v h;go_wp2;go_end0
  refine⟨rfl,?_,P.o⟩;unfold OpM.stk OpM.loc OpM.er;rw[al.o,av.o];show StW ah lo p Q _ (Zb4 1 stk 0++[]) (loc.set n.toNat ((Zb7 1 stk 0).getD 0 [])) (Zc2 1 (fun _ _=>true) stk 0);rw[ax.o,YaN];exact ai.o
 ·have M:(Zgt n).e0 loc=74:=by show(if ZdI n loc=true then 0 else 74)=74;rw[Yar (by rw[f];decide)]
  have I:(Zgt n).loc stk loc=loc:=by
   unfold OpM.loc;show(match (if 0<=n then some n.toNat else none)with|none=>loc|some k=>loc.set k ((Zb7 1 stk ((Zgt n).e0 loc)).getD 0 []))=loc;split
   ·rfl
   ·rename_i k R;by_cases af:0<=n
    ·rw[Yay af]at R;obtain rfl:=Yac R;have A:¬n.toNat<loc.length:=fun A=>by unfold ZdI at f;rw[Yas af,Yas (by omega)]at f;cases f
     exact List.set_eq_of_length_le (by omega)
    ·rw[Yar af]at R;cases R
  have m:Below r.heap.size r (r.alloc (.cells #[.string ⟨#[]⟩] 9)):=Zaa (Yab _ _) _;have aj:=Box.new r #[.string ⟨#[]⟩] 9;obtain⟨q,ac⟩:∃q,q=r.alloc (.cells #[.string ⟨#[]⟩] 9):=⟨_,rfl⟩
  rw[←ac]at m aj⊢;clear ac;have j:Below q.heap.size q (q.alloc (.cells #[.func (.func 104) #[] #[]] 107)):=Zaa (Yab _ _) _;have N:=Box.new q #[.func (.func 104) #[] #[]] 107;have h:=Hd (Zc3 d (m.trans (j.mono m.size)) (by have:=ar.o;omega) q.heap.size 1 1 (by decide) (by decide) (fun i aJ=>by obtain rfl:i=0:=(by omega);exact N.cell 0 rfl) m.size);have ad:=Hd (ab.trans ((m.trans (j.mono m.size)).mono d.lo1));have X:=Hd (aj.below j);have K:=Hd d.lo1;obtain⟨x,C⟩:=Zgx stk (reqE 0 false 74);have ax:=Hd C;have al:=Hd M;have ag:=Hd I;unfold Tk7G at h;rw[C,show(q.alloc (.cells #[.func (.func 104) #[] #[]] 107)).heap.size=q.heap.size+1 by simp]at h;obtain⟨b,A⟩:∃b,b=r.heap.size:=⟨_,rfl⟩
  rw[←A]at h X K⊢;clear j N C M I D d ab m aj A;go_wp2_with fail;with_reducible refine h.o.mono ?_
  rintro e l⟨aM,rfl,w,d,_,y,s,_,aF,rfl,_,T,_⟩;obtain⟨aR,o,u,O,am,_,v⟩:=Src.elem w 0 x rfl;obtain rfl:=am;simp only[Ya1,Ybz,and_true]at O;obtain⟨rfl,rfl⟩:=O;have aK:l.cell? ⟨q.heap.size+1,0,none⟩=some (.string (S x)):=by have aE:=v 0 _ rfl;rw[Ycc]at aE;exact aE
  have E:=X.o.keep T (fun e=>by rcases e with e|e;omega;exact e.elim);have aN:=E.cell 0 rfl;have aH:=E.free 0;have z:Only (fun i=>b<=i) l (l.setCell ⟨b,0,none⟩ (.string (S x))):=(Yak (fun i=>b<=i) l).setCell (p:=⟨b,0,none⟩) (Yad b) _;have ai:=Hd (d _ z);have P:=Hd (ad.o.trans (y.trans (z.below (B:=lo) (Yaj K.o (by have:=E.lt;omega)) (fun i e=>Yaj K.o e))));clear w d y s E z T v h;go_wp2;go_end0
  refine⟨rfl,?_,P.o⟩;rw[ag.o];unfold OpM.stk OpM.er;rw[al.o];show StW ah lo p Q _ (Zb4 1 stk 74++[]) loc (Zc2 1 (fun _ _=>true) stk 74);rw[YaN];exact ai.o
def refB (es:List Ent)(s:List UInt8):Bool:=ZdX es s&&!Zay s
theorem ZhT {A:Nat->Prop}{B:Nat->Nat}{m l:Nat}{es:List Ent}{f:World}(h:Tab A f m l B es)(n:Nat)(s:List UInt8)(w:World)(i:Below f.heap.size f w)(g:s.length<=9223372036854775807)(p:w.cell? ⟨n,0,none⟩=some (.pointer (some ⟨m,0,none⟩))) :
  Calls prog 115 #[.pointer (some ⟨n,0,none⟩),.string (S s)] w (Said (refB es s) w):=by
 have b:=Hd (ZeM h s w i g);have c:Hid (∀V,Calls prog 178 #[.string (S s)] V fun e w'=>e=.returned (.bool (Zay s))/\V=w'):=Hd (fun V=>ZeT s V);unfold Said at b⊢;unfold refB;clear h i g;generalize ZdX es s=k at b⊢;generalize Zay s=q at c⊢;cases k
 ·go_enter func115,ntmps115
  go_wp2_with fail;with_reducible refine b.o.mono ?_
  rintro e j⟨rfl,a⟩;have d:=Hd a;clear a;go_wp2;go_ret;exact⟨rfl,d.o⟩
 ·go_enter func115,ntmps115
  go_wp2_with fail;with_reducible refine b.o.mono ?_
  rintro e j⟨rfl,a⟩;have d:=Hd a;clear a;go_wp2_with fail;with_reducible refine(c.o _).mono ?_
  rintro e w2⟨rfl,rfl⟩;cases q
  all_goals
   go_wp2;go_ret;exact⟨rfl,d.o⟩
def ZmU (es:List Ent)(t:List (List UInt8))(i:Nat):Bool:=refB es (t.getD i [])
theorem Zew {A:Nat->Prop}{B:Nat->Nat}{D J:Nat}{es:List Ent}{c:World}(G:Tab A c D J B es){d lo:Nat}{p:Nat->Option Value}(H:p 0=some (.pointer (some ⟨D,0,none⟩))){g W:World}{stk loc:List (List UInt8)}{er:Nat}(h:StW d lo p c g stk loc er)(k:Below g.heap.size g W)(u:stk.length<=1048576)(j y m:Nat)(w:1<=m)(P:m<=100)
  (z:∀i,i<m->W.cell? ⟨j,i,none⟩=some (.func (.func 115) #[.pointer (some ⟨d,0,none⟩)] #[]))(C:g.heap.size<=j)(L:∀x∈stk,x.length<=9223372036854775807) :
  Calls prog 103 #[.pointer (some ⟨d,0,none⟩),.slice (some ⟨j,0,none⟩) m y] W (Tk7G g.heap.size (fun _=>False) d lo p c m (ZmU es) stk loc er (fun V=>Below c.heap.size c V/\V.cell? ⟨d,0,none⟩=some (.pointer (some ⟨D,0,none⟩))) W):=by
 have b:(List.replicate m (⟨115,#[.pointer (some ⟨d,0,none⟩)],#[]⟩:Zln)).length=m:=Ybm;have l:c.heap.size<=d:=Yaj h.lo2 h.lo3;have E:=h.under k;refine Zh3 h k u j y m (List.replicate m ⟨115,#[.pointer (some ⟨d,0,none⟩)],#[]⟩) (ZmU es) (fun _ V=>Below c.heap.size c V/\V.cell? ⟨d,0,none⟩=some (.pointer (some ⟨D,0,none⟩))) (fun _=>False) b.symm (by rw[b];exact w) (by rw[b];omega)
  (fun i t f=>?_) C (fun t f=>?_) ⟨E.bel,E.cell 0 (by decide) H⟩ (fun _ V I a r=>⟨a.1.trans (r.mono a.1.size),(Yae (S:=fun _=>False) r).cell a.2 id⟩)
  (fun _ V v a=>⟨⟨a.1.setCell l v,by rw[World.cell?_setCell_other V ⟨d,13,none⟩ ⟨d,0,none⟩ v (by intro e;injection e with _ e;cases e)];exact a.2⟩,⟨a.1.setCell l v,by rw[World.cell?_setCell_other V ⟨d,11,none⟩ ⟨d,0,none⟩ v (by intro e;injection e with _ e;cases e)];exact a.2⟩⟩) (fun O i t s f q V a=>?_) (fun _ E=>E.elim)
 ·have K:i<m:=by have:=(Yag.1 f).1;rw[b]at this;exact this
  obtain rfl:=(Ybt.1 (Yaf f)).2;exact z i K
 ·obtain rfl:=(Ybt.1 f).2;exact Zac func115 (by kernel_rfl) rfl
 ·obtain rfl:=(Ybt.1 (Yaf f)).2;rw[b]at q⊢;have M:=ZhT G d s V a.1 (L s (Yaf q)) a.2;have F:(stk.drop (stk.length-m)).getD i []=s:=by rw[Yap,Ybo,q];rfl
  unfold ZmU;rw[F];exact M.mono (fun e I ⟨N,n⟩=>⟨N,⟨a.1.trans (n.mono a.1.size),(Yae (S:=fun _=>False) n).cell a.2 id⟩,Yae n⟩)
def Zfq (es:List Ent)(s:List UInt8):Bool:=!(s==Zcv)&&ZdX es s
theorem ZhI {A:Nat->Prop}{B:Nat->Nat}{J F:Nat}{es:List Ent}{q:World}(v:Tab A q J F B es){z lo:Nat}{p:Nat->Option Value}(w:p 0=some (.pointer (some ⟨J,0,none⟩))){W:World}{stk loc:List (List UInt8)}{er:Nat}{a:List UInt8}(y:p 10=some (.string (S a)))(x:a.length<=1000)(t:StW z lo p q W stk loc er) :
  Calls prog 111 #[.pointer (some ⟨z,0,none⟩)] W (fun e l=>e=.returned (.string (S a))/\StW z lo p q l stk loc (reqE er (Zfq es a) 76)/\Below lo W l):=by
 have C:=t.cell 10 (by decide) y;have G:=t.cell 0 (by decide) w;have r:=Hd (ZeM v a W t.bel (by omega));have f:Hid (∀V b,Below W.heap.size W V->Calls prog 19 #[.pointer (some ⟨z,0,none⟩),.bool b,.int .i64 (76:Nat)] V (fun en l=>en=.returned (.tuple #[])/\StW z lo p q l stk loc (reqE er b 76)/\Below lo V l)):=Hd (fun V b I=>ZcK (t.under I) b 76);have u:=Hd t.lo1;have K:=Zaf a;unfold Said at r;have n:∀b,(a==Zcv)=b->(a==[110,117,108,108])=b:=fun b h=>h;clear t y w v x;cases g:(a==Zcv)
 ·have H:=n _ g;have d:Zfq es a=ZdX es a:=by unfold Zfq;rw[g];rfl
  rw[d];generalize ZdX es a=k at r⊢;clear g n d;go_enter func111,ntmps111
  go_wp2_with fail;with_reducible refine r.o.mono ?_
  rintro e E⟨rfl,h⟩;have c:=Hd (f.o E k h);have D:=Hd (h.mono u.o);clear h C G f;cases k
  all_goals
   go_wp2_with fail;refine c.o.mono ?_;rintro e w2⟨rfl,m,i⟩;have s:=Hd m;have j:=Hd (D.o.trans i);clear m i c;go_wp2;go_ret;exact⟨rfl,s.o,j.o⟩
 ·have H:=n _ g;have d:Zfq es a=false:=by unfold Zfq;rw[g];rfl
  rw[d];have c:=Hd (f.o W false (Yab _ _));clear g n d f r;go_enter func111,ntmps111
  go_wp2_with fail;refine c.o.mono ?_;rintro e w2⟨rfl,m,i⟩;have s:=Hd m;have j:=Hd i;clear m i c;go_wp2;go_ret;exact⟨rfl,s.o,j.o⟩
def ZrN (es:List Ent):OpM:=⟨fun _=>0,2,ZmU es,fun _ _=>[Zbq],none⟩
def isO (es:List Ent)(a:List UInt8):OpM:=⟨fun _=>reqE 0 (Zfq es a) 76,1,ZmU es,fun _ _=>[Zbq],none⟩
def ZsZ (es:List Ent)(a:List UInt8):OpM:=⟨fun _=>reqE 0 (Zfq es a) 76,1,ZmU es,fun _ _=>[a],none⟩
def Zho (es:List Ent)(a:List UInt8):OpM:=⟨fun _=>reqE 0 (objE es a) 76,0,fun _ _=>true,fun _ _=>[a],none⟩
def ZqL:OpM:=⟨fun _=>0,0,fun _ _=>true,fun _ _=>[],none⟩
def endO (es:List Ent)(a:List UInt8):OpM:=if a=[]then ZqL else ZbE es [a] []
theorem Zsj {b lo:Nat}{p:Nat->Option Value}{a W:World}{stk loc:List (List UInt8)}(d:StW b lo p a W stk loc 0) :
  Calls prog 57 #[.pointer (some ⟨b,0,none⟩)] W (OpG b lo p a ZqL stk loc W):=by
 have c:=Hd d;clear d;go_enter func57,ntmps57;go_wp2
 go_end0
 refine⟨rfl,?_,(Yab _ _).mono c.o.lo1⟩;unfold OpM.stk OpM.loc OpM.er;show StW b lo p a W (Zb4 0 stk 0++[]) loc (Zc2 0 (fun _ _=>true) stk 0);rw[Zcm,Zcl,YaN];exact c.o
theorem Zn3 {A:Nat->Prop}{B:Nat->Nat}{N J:Nat}{es:List Ent}{j:World}(t:Tab A j N J B es)(y:Shape es){k lo:Nat}{p:Nat->Option Value}(u:p 0=some (.pointer (some ⟨N,0,none⟩))){W:World}{stk loc:List (List UInt8)}(O:StW k lo p j W stk loc 0)(G:stk.length<=1000)(w:∀x∈stk,x.length<=9223372036854775807) :
  Calls prog 70 #[.pointer (some ⟨k,0,none⟩)] W (OpG k lo p j (ZrN es) stk loc W):=by
 have s:=Hd O;have I:=Hd t;have U:=Hd y;have C:=Hd G;have L:=Hd w;have H:=Hd u;clear t y O G w u;go_enter func70,ntmps70;have f:Below W.heap.size W (W.alloc (.cells #[.func (.func 115) #[.pointer (some ⟨k,0,none⟩)] #[],.func (.func 115) #[.pointer (some ⟨k,0,none⟩)] #[]] 107)):=Zaa (Yab _ _) _;have g:=Box.new W #[.func (.func 115) #[.pointer (some ⟨k,0,none⟩)] #[],.func (.func 115) #[.pointer (some ⟨k,0,none⟩)] #[]] 107;have a:=Hd (Zew I.o H.o s.o f (by have:=C.o;omega) W.heap.size 2 2 (by decide) (by decide) (fun i R=>by have q:i=0\/i=1:=(by omega);rcases q with rfl|rfl;exact g.cell 0 rfl;exact g.cell 1 rfl) (Yad _) L.o);have l:=Hd (f.mono s.o.lo1);unfold Tk7G at a;clear f g
 go_wp2_with fail;with_reducible refine a.o.mono ?_
 rintro e M⟨T,rfl,E,b,_,c,_,_⟩;have v:=Hd (b M (Yak _ _));have h:=Hd (l.o.trans c);clear E b c a;have d:=Hd (ZaY (n:=1) v.o [Zbq] #[.string (⟨#[98,111,111,108]⟩)] rfl rfl (by simp) (by have Q:=C.o;have V:=Zbh 2 stk 0;omega) (fun z r=>by simp only[Yai,Yat,or_false]at r;rw[r];exact(by decide)) 9);go_wp2_with fail;refine d.o.mono ?_;rintro e P⟨rfl,m,D⟩;have K:=Hd m;have F:=Hd (h.o.trans D);clear m D d;go_wp2;go_end0
 exact⟨rfl,K.o,F.o⟩
theorem Ztc {A:Nat->Prop}{B:Nat->Nat}{X Q:Nat}{es:List Ent}{t:World}(l:Tab A t X Q B es)(E:Shape es){N lo:Nat}{p:Nat->Option Value}(q:p 0=some (.pointer (some ⟨X,0,none⟩))){W:World}{stk loc:List (List UInt8)}{d:List UInt8}(H:p 10=some (.string (S d)))(b:d.length<=1000)(R:StW N lo p t W stk loc 0)(M:stk.length<=1000)(D:∀x∈stk,x.length<=9223372036854775807) :
  Calls prog 68 #[.pointer (some ⟨N,0,none⟩)] W (OpG N lo p t (isO es d) stk loc W):=by
 have aa:=Hd R;have P:=Hd l;have ad:=Hd E;have F:=Hd M;have U:=Hd D;have O:=Hd q;have h:=Hd (ZhI l q H b R);have Y:=Hd b;clear l E R M D q H b;go_enter func68,ntmps68
 go_wp2_with fail;with_reducible refine h.o.mono ?_
 rintro e a⟨rfl,m,r⟩;have J:=Hd m;have L:=Hd r;clear m r h;have k:Below a.heap.size a (a.alloc (.cells #[.func (.func 115) #[.pointer (some ⟨N,0,none⟩)] #[]] 107)):=Zaa (Yab _ _) _;have C:=Box.new a #[.func (.func 115) #[.pointer (some ⟨N,0,none⟩)] #[]] 107;have c:=Hd (Zew P.o O.o J.o k (by have:=F.o;omega) a.heap.size 1 1 (by decide) (by decide) (fun i ab=>by obtain rfl:i=0:=(by omega);exact C.cell 0 rfl) (Yad _) U.o);have u:=Hd (k.mono J.o.lo1);unfold Tk7G at c;clear k C;go_wp2_with fail;with_reducible refine c.o.mono ?_
 rintro e V⟨ac,rfl,I,f,_,g,_,_⟩;have y:=Hd (f V (Yak _ _));have s:=Hd (u.o.trans g);clear I f g c;have j:=Hd (ZaY (n:=1) y.o [Zbq] #[.string (⟨#[98,111,111,108]⟩)] rfl rfl (by simp) (by have m:=F.o;have r:=Zbh 1 stk (reqE 0 (Zfq es d) 76);omega) (fun z w=>by simp only[Yai,Yat,or_false]at w;rw[w];exact(by decide)) 9);go_wp2_with fail;refine j.o.mono ?_;rintro e Z⟨rfl,v,G⟩;have T:=Hd v;have K:=Hd ((L.o.trans s.o).trans G);clear v G j;go_wp2;go_end0
 exact⟨rfl,T.o,K.o⟩
theorem Zqh {A:Nat->Prop}{B:Nat->Nat}{Y R:Nat}{es:List Ent}{t:World}(l:Tab A t Y R B es)(E:Shape es){O lo:Nat}{p:Nat->Option Value}(q:p 0=some (.pointer (some ⟨Y,0,none⟩))){W:World}{stk loc:List (List UInt8)}{a:List UInt8}(I:p 10=some (.string (S a)))(c:a.length<=1000)(T:StW O lo p t W stk loc 0)(N:stk.length<=1000)(D:∀x∈stk,x.length<=9223372036854775807) :
  Calls prog 69 #[.pointer (some ⟨O,0,none⟩)] W (OpG O lo p t (ZsZ es a) stk loc W):=by
 have aa:=Hd T;have Q:=Hd l;have ad:=Hd E;have F:=Hd N;have V:=Hd D;have P:=Hd q;have h:=Hd (ZhI l q I c T);have H:=Hd c;clear l E T N D q I c;go_enter func69,ntmps69
 go_wp2_with fail;with_reducible refine h.o.mono ?_
 rintro e b⟨rfl,m,r⟩;have K:=Hd m;have M:=Hd r;clear m r h;have k:Below b.heap.size b (b.alloc (.cells #[.func (.func 115) #[.pointer (some ⟨O,0,none⟩)] #[]] 107)):=Zaa (Yab _ _) _;have C:=Box.new b #[.func (.func 115) #[.pointer (some ⟨O,0,none⟩)] #[]] 107;have d:=Hd (Zew Q.o P.o K.o k (by have:=F.o;omega) b.heap.size 1 1 (by decide) (by decide) (fun i ab=>by obtain rfl:i=0:=(by omega);exact C.cell 0 rfl) (Yad _) V.o);have u:=Hd (k.mono K.o.lo1);unfold Tk7G at d;clear k C;go_wp2_with fail;with_reducible refine d.o.mono ?_
 rintro e X⟨ac,rfl,J,f,_,g,_,_⟩;have y:=Hd (f X (Yak _ _));have s:=Hd (u.o.trans g);clear J f g d;have j:=Hd (ZaY (n:=1) y.o [a] #[.string (S a)] rfl rfl (by simp) (by have m:=F.o;have r:=Zbh 1 stk (reqE 0 (Zfq es a) 76);omega) (fun z w=>by simp only[Yai,Yat,or_false]at w;rw[w];exact(by have:=H.o;omega)) 9);go_wp2_with fail;refine j.o.mono ?_;rintro e Z⟨rfl,v,G⟩;have U:=Hd v;have L:=Hd ((M.o.trans s.o).trans G);clear v G j;go_wp2;go_end0
 exact⟨rfl,U.o,L.o⟩
theorem Zsc {A:Nat->Prop}{B:Nat->Nat}{T Z:Nat}{es:List Ent}{q:World}(w:Tab A q T Z B es)(D:Shape es){u lo:Nat}{p:Nat->Option Value}(z:p 0=some (.pointer (some ⟨T,0,none⟩))){W:World}{stk loc:List (List UInt8)}{a:List UInt8}(F:p 3=some (.string (S a)))(k:a.length<=1000)(N:StW u lo p q W stk loc 0)(G:stk.length<=1000)(C:∀x∈stk,x.length<=9223372036854775807) :
  Calls prog 71 #[.pointer (some ⟨u,0,none⟩)] W (OpG u lo p q (endO es a) stk loc W):=by
 have ae:=N.cell 3 (by decide) F;by_cases d:a=[]
 ·have m:S a=⟨#[]⟩:=by rw[d];rfl
  have af:=Hd N;have v:Hid (endO es a=ZqL):=Hd (by unfold endO;rw[Yay d]);rw[m]at ae;clear N w D z F k G C d m;go_enter func71,ntmps71;go_wp2
  go_end0
  rw[v.o];refine⟨rfl,?_,(Yab _ _).mono af.o.lo1⟩;unfold OpM.stk OpM.loc OpM.er;show StW u lo p q W (Zb4 0 stk 0++[]) loc (Zc2 0 (fun _ _=>true) stk 0);rw[Zcm,Zcl,YaN];exact af.o
 have m:a.isEmpty=false:=by
  cases a with
  |nil=>exact absurd rfl d
  |cons _ _=>rfl
 have ag:=Zaf a;have f:=Hd N;have Y:=Hd w;have aa:=Hd D;have ab:=Hd G;have ac:=Hd C;have U:=Hd z;have v:Hid (endO es a=ZbE es [a] []):=Hd (by unfold endO;rw[Yar d]);have O:=Hd k;clear w D N G C z F k d;go_enter func71,ntmps71;have j:Hid (∀V,Calls prog 106 #[.pointer (some ⟨u,0,none⟩),.string (S a)] V (SubG u a V)):=Hd (fun V=>ZaT u a V);unfold SubG at j
 go_wp2_with fail;with_reducible refine(j.o W).mono ?_
 rintro e c⟨h,g,rfl,Q,K,X,R,y⟩;have s:Below W.heap.size W c:=y;have r:Below c.heap.size c (c.alloc (.cells #[.func (.func 169) #[] #[.pointer (some ⟨h,0,none⟩),.pointer (some ⟨g,0,none⟩)]] 107)):=Zaa (Yab _ _) _;have M:=Box.new c #[.func (.func 169) #[] #[.pointer (some ⟨h,0,none⟩),.pointer (some ⟨g,0,none⟩)]] 107;have l:Below W.heap.size W (c.alloc (.cells #[.func (.func 169) #[] #[.pointer (some ⟨h,0,none⟩),.pointer (some ⟨g,0,none⟩)]] 107)):=s.trans (r.mono s.size);have L:=f.o.lt;have b:Stands q T u [(h,g,a)] (c.alloc (.cells #[.func (.func 169) #[] #[.pointer (some ⟨h,0,none⟩),.pointer (some ⟨g,0,none⟩)]] 107)):=⟨f.o.bel.trans (l.mono f.o.bel.size),(Yae (S:=fun _=>False) l).cell (f.o.cell 0 (by decide) U.o) id,fun ak aj o I=>by
  have ah:=y.size;simp only[Yai,Yat,or_false,Prod.mk.injEq]at I;obtain⟨rfl,rfl,rfl⟩:=I;exact⟨by omega,by omega,Q.below r,K.below r⟩⟩
 have n:=Hd (Zbx Y.o aa.o f.o l (by have:=ab.o;omega) c.heap.size 1 1 [(h,g,a)] rfl (by simp) (by simp) (fun i al hq=>by
   match i,hq with
   |0,hq=>obtain rfl:=Yac hq;exact M.cell 0 rfl
   |i+1,hq=>cases hq) s.size b (fun al hq=>by simp only[Yai,Yat,or_false]at hq;subst hq;exact(show a.length<=9223372036854775807 from(by have:=O.o;omega))) ac.o)
 have H:=Hd l;unfold Tk7G at n;clear Q K X R y s r M l b L;go_wp2_with fail;with_reducible refine n.o.mono ?_
 rintro e ad⟨ai,rfl,P,b,_,t,_,_⟩;have J:=Hd (b ad (Yak _ _));have E:=Hd ((H.o.mono f.o.lo1).trans t);clear P b t n;go_wp2;go_end0
 rw[v.o];refine⟨rfl,?_,E.o⟩;unfold OpM.stk;rw[show(ZbE es [a] []).put=fun _ _=>[]from rfl,YaN];exact J.o
def arrO (es:List Ent)(a:List UInt8):OpM:=⟨fun _=>reqE (reqE 0 (Zfq es a) 76) (Zag a&&decide (ZaL a<=2)) 76,1,Zfr es [intL],fun _ _=>[if Zag a=true/\ZaL a<=2 then ofL a else[]],none⟩
theorem ZeZ {b lo:Nat}{p:Nat->Option Value}{a W:World}{stk loc:List (List UInt8)}{er:Nat}(c:StW b lo p a W stk loc er):StW b lo p a W.drew stk loc er:=c.under (Zab (Yab _ _))
theorem Zd3 {d lo:Nat}{p:Nat->Option Value}{a W b:World}{stk loc:List (List UInt8)}{er:Nat}(c:Below W.heap.size W b)(f:StW d lo p a W stk loc er):StW d lo p a b stk loc er:=f.under c
theorem ZnO {A:Nat->Prop}{B:Nat->Nat}{t Q:Nat}{es:List Ent}{c:World}(C:Tab A c t Q B es){g lo:Nat}{p:Nat->Option Value}(E:p 0=some (.pointer (some ⟨t,0,none⟩))){W:World}{stk loc:List (List UInt8)}{a:List UInt8}(J:p 10=some (.string (S a)))(i:a.length<=1000)(R:StW g lo p c W stk loc 0)(L:stk.length<=1000) :
  Calls prog 60 #[.pointer (some ⟨g,0,none⟩)] W (OpG g lo p c (Zho es a) stk loc W):=by
 have q:Hid (∀V,StW g lo p c V stk loc 0->Calls prog 107 #[.pointer (some ⟨t,0,none⟩),.string (S a)] V (fun e w'=>e=.returned (.bool (objE es a))/\Below V.heap.size V w')):=Hd (fun V f=>Zkb C a V f.bel (by omega));have j:Hid (∀V b,StW g lo p c V stk loc 0->Calls prog 19 #[.pointer (some ⟨g,0,none⟩),.bool b,.int .i64 76] V (fun en H=>en=.returned (.tuple #[])/\StW g lo p c H stk loc (reqE 0 b 76)/\Below lo V H)):=Hd (fun V b f=>ZcK f b 76);have d:Hid (∀V er,StW g lo p c V stk loc er->V.cell? ⟨g,0,none⟩=some (.pointer (some ⟨t,0,none⟩))/\V.cell? ⟨g,10,none⟩=some (.string (S a))):=Hd (fun V er f=>⟨f.cell 0 (by decide) E,f.cell 10 (by decide) J⟩);have y:Hid ((Zho es a).e0 loc=reqE 0 (objE es a) 76):=Hd rfl;have D:Hid ((Zho es a).put (Zb7 0 stk (reqE 0 (objE es a) 76)) loc=[a]):=Hd rfl;have w:Hid (∀V,StW g lo p c V stk loc 0->lo<=V.heap.size):=Hd (fun V f=>f.lo1);generalize objE es a=k at q y D;have T:=Hd L;have I:=Hd i;have r:=R;have Z:=Hd R;clear C E J i L R;obtain⟨Y,O⟩:=d.o W 0 r;go_enter func60,ntmps60
 go_upto_region 0 with fail;first
 |(go_region_held (fun V=>V.cell? ⟨g,0,none⟩=some (.pointer (some ⟨t,0,none⟩))/\V.cell? ⟨g,10,none⟩=some (.string (S a))) ((first|(refine d.o _ 0 ?_;(with_reducible repeat (first|assumption|refine ZeZ ?_|(apply Zd3;assumption)));done)|(refine d.o _ (reqE 0 k 76) ?_;(with_reducible repeat (first|assumption|refine ZeZ ?_|(apply Zd3;assumption)));done)))
   (first
    |(go_at_call 107;(with_reducible refine(q.o _ ?_).mono ?_);(focus ((with_reducible repeat (first|assumption|refine ZeZ ?_|(apply Zd3;assumption)));done));rintro en P⟨rfl,l⟩)
    |(go_at_call 19;(with_reducible refine(j.o _ _ ?_).mono ?_);(focus ((with_reducible repeat (first|assumption|refine ZeZ ?_|(apply Zd3;assumption)));done));rintro en x⟨rfl,h,m⟩)))
 |fail
 all_goals
  have F:StW g lo p c P stk loc 0:=by(with_reducible repeat (first|assumption|refine ZeZ ?_|(apply Zd3;assumption)))
  have M:Hid (Below lo W x):=Hd ((((Zab (Yab W.heap.size W)).trans l).mono (w.o W Z.o)).trans m);have X:=(d.o x _ h).2;have v:=Hd (ZaY (n:=1) h [a] #[.string (S a)] rfl rfl (by simp) (by have:=T.o;omega) (fun z u=>by simp only[Yai,Yat,or_false]at u;have:=I.o;rw[u];omega) 9);clear F l h m r Y O d q j;go_wp2_with fail;refine v.o.mono ?_;rintro e N⟨rfl,s,G⟩;have U:=Hd s;have K:=Hd (M.o.trans G);clear s G v X;go_wp2;go_end0
  refine⟨rfl,?_,K.o⟩;unfold OpM.stk OpM.loc OpM.er;rw[y.o];show StW g lo p c N (Zb4 0 stk (reqE 0 k 76)++[a]) loc (Zc2 0 (fun _ _=>true) stk (reqE 0 k 76));rw[Zcm,Zcl];exact U.o
theorem ZgA {A:Nat->Prop}{B:Nat->Nat}{aE aH:Nat}{es:List Ent}{R:World}(aj:Tab A R aE aH B es)(aw:Shape es){aa lo:Nat}{p:Nat->Option Value}(ak:p 0=some (.pointer (some ⟨aE,0,none⟩))){W:World}{stk loc:List (List UInt8)}{a:List UInt8}(aA:p 10=some (.string (S a)))(J:a.length<=1000)(ar:StW aa lo p R W stk loc 0)(aD:stk.length<=1000)(au:∀x∈stk,x.length<=9223372036854775807) :
  Calls prog 64 #[.pointer (some ⟨aa,0,none⟩)] W (OpG aa lo p R (arrO es a) stk loc W):=by
 have aL:=Hd ar;have ap:=Hd aj;have av:=Hd aw;have ac:=Hd aD;have ax:=Hd au;have ao:=Hd ak;have af:=Hd (ZhI aj ak aA J ar);have ay:=Hd J;have Z:Hid (∀V,Calls prog 110 #[.string (S a)] V (Znf a V)):=Hd (fun V=>Zo1 a V (by omega));unfold Znf at Z;clear aj aw ar aD au ak aA J;go_enter func64,ntmps64
 go_wp2_with fail;with_reducible refine af.o.mono ?_
 rintro e aG⟨rfl,y,ad⟩;have az:=Hd y;have aC:=Hd ad;clear y ad af;go_wp2_with fail;with_reducible refine(Z.o aG).mono ?_
 rintro e w2⟨ab,P⟩;have ag:=Hd (aC.o.trans (P.mono az.o.lo1));have aq:=Hd (az.o.under P);clear P Z;by_cases d:Zag a=true/\ZaL a<=2
 ·rw[Yay d]at ab;subst ab;have t:=Hd (ZcK aq.o true 76);have H:Hid ((Zag a&&decide (ZaL a<=2))=true):=Hd (by rw[d.1,Yas d.2];rfl);have N:Hid ((if Zag a=true/\ZaL a<=2 then ofL a else[])=ofL a):=Hd (Yay d);have aB:Hid ((ofL a).length<=281474976710656):=Hd (by have:=ay.o;unfold ofL;simp;omega);clear d;go_wp2_with fail;refine t.o.mono ?_;rintro e k⟨rfl,T,F⟩;have f:=Hd T;have G:=Hd (ag.o.trans F);clear T F t;have j:Hid (∀V,Calls prog 106 #[.pointer (some ⟨aa,0,none⟩),.string (⟨#[105,110,116]⟩)] V (SubG aa intL V)):=Hd (fun V=>ZaT aa intL V);unfold SubG at j;go_wp2_with fail;with_reducible refine(j.o k).mono ?_
  rintro e c⟨h,g,rfl,X,L,ai,ah,v⟩;have r:Below k.heap.size k c:=v;have q:Below c.heap.size c (c.alloc (.cells #[.func (.func 169) #[] #[.pointer (some ⟨h,0,none⟩),.pointer (some ⟨g,0,none⟩)]] 107)):=Zaa (Yab _ _) _;have O:=Box.new c #[.func (.func 169) #[] #[.pointer (some ⟨h,0,none⟩),.pointer (some ⟨g,0,none⟩)]] 107;have l:Below k.heap.size k (c.alloc (.cells #[.func (.func 169) #[] #[.pointer (some ⟨h,0,none⟩),.pointer (some ⟨g,0,none⟩)]] 107)):=r.trans (q.mono r.size);have M:=f.o.lt;have b:Stands R aE aa [(h,g,intL)] (c.alloc (.cells #[.func (.func 169) #[] #[.pointer (some ⟨h,0,none⟩),.pointer (some ⟨g,0,none⟩)]] 107)):=⟨f.o.bel.trans (l.mono f.o.bel.size),(Yae (S:=fun _=>False) l).cell (f.o.cell 0 (by decide) ao.o) id,fun aK aJ o I=>by
   have y:=v.size;simp only[Yai,Yat,or_false,Prod.mk.injEq]at I;obtain⟨rfl,rfl,rfl⟩:=I;exact⟨by omega,by omega,X.below q,L.below q⟩⟩
  have m:=Hd (Zbx ap.o av.o f.o l (by have:=ac.o;omega) c.heap.size 1 1 [(h,g,intL)] rfl (by simp) (by simp) (fun i ae hq=>by
    match i,hq with
    |0,hq=>obtain rfl:=Yac hq;exact O.cell 0 rfl
    |i+1,hq=>cases hq) r.size b (fun ae hq=>by simp only[Yai,Yat,or_false]at hq;subst hq;exact(show intL.length<=9223372036854775807 from(by decide))) ax.o)
  have C:=Hd l;unfold Tk7G at m;clear X L ai ah v r q O l b M;go_wp2_with fail;with_reducible refine m.o.mono ?_
  rintro e am⟨aI,rfl,U,b,_,s,_,_⟩;have K:=Hd (b am (Yak _ _));have w:=Hd ((C.o.mono f.o.lo1).trans s);clear U b s m;have u:=Hd (ZaY (n:=1) K.o [ofL a] #[.string (S (ofL a))] rfl rfl (by simp) (by have y:=ac.o;have ad:=Zbh 1 stk (reqE (reqE 0 (Zfq es a) 76) true 76);omega) (fun z E=>by simp only[Yai,Yat,or_false]at E;rw[E];exact aB.o) 9);go_wp2_with fail;refine u.o.mono ?_;rintro e aF⟨rfl,D,Q⟩;have al:=Hd D;have Y:=Hd ((G.o.trans w.o).trans Q);clear D Q u;go_wp2;go_end0
  exact⟨rfl,(by have ae:=al.o;unfold OpM.stk OpM.loc OpM.er arrO;simp only[H.o,N.o];exact ae),Y.o⟩
 ·rw[Yar d]at ab;subst ab;have t:=Hd (ZcK aq.o false 76);have H:Hid ((Zag a&&decide (ZaL a<=2))=false):=Hd (by
   cases ae:Zag a with
   |false=>rfl
   |true=>rw[Yan (fun ar=>d ⟨ae,ar⟩)];rfl)
  have N:Hid ((if Zag a=true/\ZaL a<=2 then ofL a else[])=[]):=Hd (Yar d);clear d;go_wp2_with fail;refine t.o.mono ?_;rintro e k⟨rfl,T,F⟩;have f:=Hd T;have G:=Hd (ag.o.trans F);clear T F t;have j:Hid (∀V,Calls prog 106 #[.pointer (some ⟨aa,0,none⟩),.string (⟨#[105,110,116]⟩)] V (SubG aa intL V)):=Hd (fun V=>ZaT aa intL V);unfold SubG at j;go_wp2_with fail;with_reducible refine(j.o k).mono ?_
  rintro e c⟨h,g,rfl,X,L,ai,ah,v⟩;have r:Below k.heap.size k c:=v;have q:Below c.heap.size c (c.alloc (.cells #[.func (.func 169) #[] #[.pointer (some ⟨h,0,none⟩),.pointer (some ⟨g,0,none⟩)]] 107)):=Zaa (Yab _ _) _;have O:=Box.new c #[.func (.func 169) #[] #[.pointer (some ⟨h,0,none⟩),.pointer (some ⟨g,0,none⟩)]] 107;have l:Below k.heap.size k (c.alloc (.cells #[.func (.func 169) #[] #[.pointer (some ⟨h,0,none⟩),.pointer (some ⟨g,0,none⟩)]] 107)):=r.trans (q.mono r.size);have M:=f.o.lt;have b:Stands R aE aa [(h,g,intL)] (c.alloc (.cells #[.func (.func 169) #[] #[.pointer (some ⟨h,0,none⟩),.pointer (some ⟨g,0,none⟩)]] 107)):=⟨f.o.bel.trans (l.mono f.o.bel.size),(Yae (S:=fun _=>False) l).cell (f.o.cell 0 (by decide) ao.o) id,fun aK aJ o I=>by
   have y:=v.size;simp only[Yai,Yat,or_false,Prod.mk.injEq]at I;obtain⟨rfl,rfl,rfl⟩:=I;exact⟨by omega,by omega,X.below q,L.below q⟩⟩
  have m:=Hd (Zbx ap.o av.o f.o l (by have:=ac.o;omega) c.heap.size 1 1 [(h,g,intL)] rfl (by simp) (by simp) (fun i ae hq=>by
    match i,hq with
    |0,hq=>obtain rfl:=Yac hq;exact O.cell 0 rfl
    |i+1,hq=>cases hq) r.size b (fun ae hq=>by simp only[Yai,Yat,or_false]at hq;subst hq;exact(show intL.length<=9223372036854775807 from(by decide))) ax.o)
  have C:=Hd l;unfold Tk7G at m;clear X L ai ah v r q O l b M;go_wp2_with fail;with_reducible refine m.o.mono ?_
  rintro e am⟨aI,rfl,U,b,_,s,_,_⟩;have K:=Hd (b am (Yak _ _));have w:=Hd ((C.o.mono f.o.lo1).trans s);clear U b s m;have u:=Hd (ZaY (n:=1) K.o [[]] #[.string (⟨#[]⟩)] rfl rfl (by simp) (by have y:=ac.o;have ad:=Zbh 1 stk (reqE (reqE 0 (Zfq es a) 76) false 76);omega) (fun z E=>by simp only[Yai,Yat,or_false]at E;rw[E];exact(by decide)) 9);go_wp2_with fail;refine u.o.mono ?_;rintro e aF⟨rfl,D,Q⟩;have al:=Hd D;have Y:=Hd ((G.o.trans w.o).trans Q);clear D Q u;go_wp2;go_end0
  exact⟨rfl,(by have ae:=al.o;unfold OpM.stk OpM.loc OpM.er arrO;simp only[H.o,N.o];exact ae),Y.o⟩
