/- laws -/
import Derived.Test.YtegljjbclladdaaGreatDoorK39
import Derived.Test.YtegljjbclladdaaGreatDoorK76
import Derived.Test.YtegljjbclladdaaGreatDoorK83
set_option maxRecDepth 100000
set_option maxHeartbeats 16000000
namespace Go.Proofs.YtegljjbclladdaaGreatDoor
open Go.RowKit Proofs.Tryz
def clsP (s:List UInt8):List UInt8:=if ZaU s=true then s.take (ZaQ s)else[]
def nmP (s:List UInt8):List UInt8:=if ZaU s=true then s.drop (ZaQ s+1)else[]
theorem Zg3 (s:List UInt8)(w:World)(f:s.length<=1000):∃z:Int,Calls prog 170 #[.string (S s)] w (fun e w'=>e=.returned (.tuple #[.string (S (clsP s)),.string (S (nmP s)),.int .i64 z])/\Below w.heap.size w w'):=by
 have d:=Zgn s w (by omega);unfold ZfD at d;by_cases a:ZaU s=true
 ·refine⟨0,d.mono (fun e w' ⟨b,c⟩=>⟨?_,c⟩)⟩;rw[Yay a]at b;unfold clsP nmP;rw[Yay a,Yay a];exact b
 ·refine⟨30,d.mono (fun e w' ⟨b,c⟩=>⟨?_,c⟩)⟩;rw[Yar a]at b;unfold clsP nmP;rw[Yar a,Yar a];exact b
theorem Zhm (s:List UInt8):(clsP s).length<=s.length:=by
 unfold clsP;split
 ·rw[YaA];omega
 ·simp
theorem Zpv {er e:Nat}:reqE er true e=er:=by unfold reqE;rw[Yar (fun a=>by cases a.2)]
def Zek (es:List Ent)(s:List UInt8):Option (List UInt8×List UInt8):=match Zbc es (clsP s) (nmP s)with
 |none=>none
 |some k=>(Zei es (clsP s))[k]?.map fun f=>(clsP s,f.kind)
def Zfg (es:List Ent)(s:List UInt8):List UInt8:=((Zek es s).getD ([],[])).1
def Zel (es:List Ent)(s:List UInt8):List UInt8:=((Zek es s).getD ([],[])).2
theorem ZkP {A:Nat->Prop}{B:Nat->Nat}{U aq:Nat}{es:List Ent}{s:World}(O:Tab A s U aq B es)(P:Shape es){T lo:Nat}{p:Nat->Option Value}(aa:p 0=some (.pointer (some ⟨U,0,none⟩))){W:World}{stk loc:List (List UInt8)}{er:Nat}{a:List UInt8}(ai:p 10=some (.string (S a)))(G:a.length<=1000)(u:StW T lo p s W stk loc er) :
  Calls prog 108 #[.pointer (some ⟨T,0,none⟩)] W (fun e r=>e=.returned (.tuple #[.string (S (Zfg es a)),.string (S (Zel es a))])/\StW T lo p s r stk loc (reqE er (Zek es a).isSome 76)/\Below lo W r):=by
 have ah:=u.cell 10 (by decide) ai;obtain⟨z,C⟩:=Zg3 a W G;have j:=Hd C;have ak:=Zhm a;have b:Hid (∀V,Below W.heap.size W V->Calls prog 171 #[.pointer (some ⟨U,0,none⟩),.string (S (clsP a)),.string (S (nmP a))] V (Zef (Zbc es (clsP a) (nmP a)) V)):=Hd (fun V h=>ZmQ O P _ _ V (u.bel.trans (h.mono u.bel.size)) (by omega));have g:Hid (∀V,Below W.heap.size W V->Calls prog 172 #[.pointer (some ⟨U,0,none⟩),.string (S (clsP a))] V (ZfB (Zei es (clsP a)) V)):=Hd (fun V h=>ZfU O P _ V (u.bel.trans (h.mono u.bel.size)) (by omega));have I:Hid (∀V,Below W.heap.size W V->Calls prog 19 #[.pointer (some ⟨T,0,none⟩),.bool false,.int .i64 (76:Nat)] V (fun en r=>en=.returned (.tuple #[])/\StW T lo p s r stk loc (reqE er false 76)/\Below lo V r)):=Hd (fun V h=>ZcK (u.under h) false 76);have L:Hid (∀V,Below W.heap.size W V->V.cell? ⟨T,0,none⟩=some (.pointer (some ⟨U,0,none⟩))):=Hd (fun V h=>(u.under h).cell 0 (by decide) aa);have ad:Hid (∀V,Below W.heap.size W V->StW T lo p s V stk loc er):=Hd (fun V h=>u.under h);have D:=Hd u.lo1;have c:Hid (Zek es a=match Zbc es (clsP a) (nmP a)with|none=>none|some k=>(Zei es (clsP a))[k]?.map fun f=>(clsP a,f.kind)):=Hd rfl;have i:Hid (∀k,Zbc es (clsP a) (nmP a)=some k->k<(Zei es (clsP a)).length):=Hd (fun k ae=>by unfold Zbc at ae;exact(YaX.1 ae).1);unfold Zef at b;unfold ZfB at g;unfold Zfg Zel;clear O P aa ai G u C ak;generalize Zbc es (clsP a) (nmP a)=al at b c i;generalize Zei es (clsP a)=x at g c i;generalize Zek es a=X at c⊢;generalize clsP a=Q at j b g c;generalize nmP a=az at j b;go_enter func108,ntmps108
 go_wp2_with fail;with_reducible refine j.o.mono ?_
 rintro e ab⟨rfl,m⟩;have au:=L.o ab m;have t:=Hd m;clear ah m j;go_wp2_with fail;with_reducible refine(b.o ab t.o).mono ?_
 rintro e w2⟨rfl,K⟩;have d:=Hd (t.o.trans (K.mono t.o.size));clear K au b;cases al with
 |none=>
  have q:X=none:=c.o;subst q;have n:idxV none=(-1:Int):=rfl;rw[n];clear c n g i;go_wp2_with fail;refine(I.o w2 d.o).mono ?_;rintro e ao⟨rfl,aj,Y⟩;have ar:=Hd aj;have Z:=Hd ((d.o.mono D.o).trans Y);clear aj Y I;go_wp2;go_ret2
  exact⟨rfl,ar.o,Z.o⟩
 |some k=>
  have J:=i.o k rfl;obtain⟨f,N⟩:∃f,x[k]?=some f:=⟨_,Yaa J⟩
  have q:X=some (Q,f.kind):=by
   have aw:=c.o;simp only at aw;rw[N]at aw;exact aw
  subst q;have n:idxV (some k)=(k:Int):=rfl;rw[n];have ap:=Hd N;have ax:(0:Int)<=(k:Int):=by omega
  have ay:(k:Int)<(x.length:Int):=by omega
  have H:Hid (∀args w,(callFunc 172 args).run prog w=.ok (.enter 172 args) w):=Hd (Zac func172 (by kernel_rfl) rfl);have E:=Hd (g.o w2.drew (d.o.trans ((Zab (Yab w2.heap.size w2)).mono d.o.size)));have av:=L.o w2.drew (d.o.trans ((Zab (Yab w2.heap.size w2)).mono d.o.size));clear c n N J i g;go_upto_region 6 with fail
  (go_region_law (refine Zcu (by rfl) 172 #[.tmp 33,.tmp 34] #[32,9] (by rfl) #[.pointer (some ⟨U,0,none⟩),.string (S Q)] (by rfl) (H.o _ _) (R:=fun v w'=>TRow 3 82 FldR w2.drew.heap.size w' v x (x.map fldV)/\Below w2.drew.heap.size w2.drew w') E.o ?_;rintro aC ao⟨l,M⟩;obtain⟨aB,aA,af⟩:=l.shape;obtain⟨gb,go_,gv,ac,ag,_,y⟩:=Src.elem (af▸l.src (Flat.stays _)) k f ap.o;subst ag;subst ac;subst af;have am:=y 1 _ rfl))
  all_goals
   have F:=Hd (d.o.trans (((Zab (Yab w2.heap.size w2)).trans M).mono d.o.size));clear av l M y am E H;go_wp2;go_ret2
   exact⟨rfl,by rw[show reqE er (some (Q,f.kind)).isSome 76=er from Zpv];exact ad.o _ F.o,F.o.mono D.o⟩
def getO (es:List Ent)(a:List UInt8):OpM:=⟨fun _=>reqE 0 (Zek es a).isSome 76,1,Zfr es [Zfg es a],fun _ _=>[Zel es a],none⟩
def ZsH (es:List Ent)(a:List UInt8):OpM:=⟨fun _=>reqE 0 (Zek es a).isSome 76,2,Zfr es [Zfg es a,Zel es a],fun _ _=>[],none⟩
theorem ZiC (es:List Ent)(s:List UInt8):(Zfg es s).length<=s.length:=by
 have a:=Zhm s;unfold Zfg Zek;cases Zbc es (clsP s) (nmP s)with
 |none=>simp
 |some k=>
  simp only;cases(Zei es (clsP s))[k]? with
  |none=>simp
  |some f=>exact a
theorem Zsf {A:Nat->Prop}{B:Nat->Nat}{ap av:Nat}{es:List Ent}{C:World}(I:Tab A C ap av B es)(L:Shape es){O lo:Nat}{p:Nat->Option Value}(K:p 0=some (.pointer (some ⟨ap,0,none⟩))){W:World}{stk loc:List (List UInt8)}{d:List UInt8}(ah:p 10=some (.string (S d)))(q:d.length<=1000)(D:(Zel es d).length<=1000)(aw:StW O lo p C W stk loc 0)(al:stk.length<=1000)(ab:∀x∈stk,x.length<=9223372036854775807) :
  Calls prog 61 #[.pointer (some ⟨O,0,none⟩)] W (OpG O lo p C (getO es d) stk loc W):=by
 have aC:=Hd aw;have au:=Hd I;have ax:=Hd L;have ac:=Hd al;have az:=Hd ab;have aq:=Hd K;have f:=Hd (ZkP I L K ah q aw);have F:=Hd D;have G:=Hd (Yaj (ZiC es d) q);obtain⟨k,u⟩:∃c,c=Zfg es d:=⟨_,rfl⟩
 obtain⟨ag,t⟩:∃c,c=Zel es d:=⟨_,rfl⟩
 rw[←u]at f G;rw[←t]at f F;have ae:=Hd u;have U:=Hd t;clear I L aw al ab K ah q D u t;go_enter func61,ntmps61
 go_wp2_with fail;with_reducible refine f.o.mono ?_
 rintro e m⟨rfl,w,M⟩;have h:=Hd w;have ak:=Hd M;clear w M f;have l:Hid (∀V,Calls prog 106 #[.pointer (some ⟨O,0,none⟩),.string (S k)] V (SubG O k V)):=Hd (fun V=>ZaT O k V);unfold SubG at l;go_wp2_with fail;with_reducible refine(l.o m).mono ?_
 rintro e b⟨j,g,rfl,ai,Y,ar,ao,J⟩;have y:Below m.heap.size m b:=J;have v:Below b.heap.size b (b.alloc (.cells #[.func (.func 169) #[] #[.pointer (some ⟨j,0,none⟩),.pointer (some ⟨g,0,none⟩)]] 107)):=Zaa (Yab _ _) _;have aa:=Box.new b #[.func (.func 169) #[] #[.pointer (some ⟨j,0,none⟩),.pointer (some ⟨g,0,none⟩)]] 107;have r:Below m.heap.size m (b.alloc (.cells #[.func (.func 169) #[] #[.pointer (some ⟨j,0,none⟩),.pointer (some ⟨g,0,none⟩)]] 107)):=y.trans (v.mono y.size);have Z:=h.o.lt;have a:Stands C ap O [(j,g,k)] (b.alloc (.cells #[.func (.func 169) #[] #[.pointer (some ⟨j,0,none⟩),.pointer (some ⟨g,0,none⟩)]] 107)):=⟨h.o.bel.trans (r.mono h.o.bel.size),(Yae (S:=fun _=>False) r).cell (h.o.cell 0 (by decide) aq.o) id,fun aF aD o T=>by
  have w:=J.size;simp only[Yai,Yat,or_false,Prod.mk.injEq]at T;obtain⟨rfl,rfl,rfl⟩:=T;exact⟨by omega,by omega,ai.below v,Y.below v⟩⟩
 have s:=Hd (Zbx au.o ax.o h.o r (by have:=ac.o;omega) b.heap.size 1 1 [(j,g,k)] rfl (by simp) (by simp) (fun i am hq=>by
   match i,hq with
   |0,hq=>obtain rfl:=Yac hq;exact aa.cell 0 rfl
   |i+1,hq=>cases hq) y.size a (fun am hq=>by simp only[Yai,Yat,or_false]at hq;subst hq;exact(show k.length<=9223372036854775807 from(by have:=G.o;omega))) az.o)
 have P:=Hd r;unfold Tk7G at s;clear ai Y ar ao J y v aa r a Z;go_wp2_with fail;with_reducible refine s.o.mono ?_
 rintro e aA⟨aE,rfl,af,a,_,E,_,_⟩;have X:=Hd (a aA (Yak _ _));have N:=Hd ((P.o.mono h.o.lo1).trans E);clear af a E s;have H:=Hd (ZaY (n:=1) X.o [ag] #[.string (S ag)] rfl rfl (by simp) (by have w:=ac.o;have M:=Zbh 1 stk (reqE 0 (Zek es d).isSome 76);omega) (fun z R=>by simp only[Yai,Yat,or_false]at R;rw[R];exact(by have:=F.o;omega)) 9);go_wp2_with fail;refine H.o.mono ?_;rintro e aB⟨rfl,Q,ad⟩;have ay:=Hd Q;have aj:=Hd ((ak.o.trans N.o).trans ad);clear Q ad H;go_wp2;go_end0
 exact⟨rfl,(by have am:=ay.o;rw[ae.o,U.o]at am;exact am),aj.o⟩
theorem ZsG {A:Nat->Prop}{B:Nat->Nat}{am au:Nat}{es:List Ent}{G:World}(L:Tab A G am au B es)(P:Shape es){C lo:Nat}{p:Nat->Option Value}(N:p 0=some (.pointer (some ⟨am,0,none⟩))){W:World}{stk loc:List (List UInt8)}{d:List UInt8}(ag:p 10=some (.string (S d)))(u:d.length<=1000)(H:(Zel es d).length<=1000)(av:StW C lo p G W stk loc 0)(aj:stk.length<=1000)(ab:∀x∈stk,x.length<=9223372036854775807) :
  Calls prog 62 #[.pointer (some ⟨C,0,none⟩)] W (OpG C lo p G (ZsH es d) stk loc W):=by
 have aC:=Hd av;have ar:=Hd L;have aw:=Hd P;have ax:=Hd aj;have ay:=Hd ab;have ao:=Hd N;have f:=Hd (ZkP L P N ag u av);have J:=Hd H;have K:=Hd (Yaj (ZiC es d) u);obtain⟨m,z⟩:∃c,c=Zfg es d:=⟨_,rfl⟩
 obtain⟨j,y⟩:∃c,c=Zel es d:=⟨_,rfl⟩
 rw[←z]at f K;rw[←y]at f J;have ad:=Hd z;have X:=Hd y;clear L P av aj ab N ag u H z y;go_enter func62,ntmps62
 go_wp2_with fail;with_reducible refine f.o.mono ?_
 rintro e t⟨rfl,M,ac⟩;have k:=Hd M;have ai:=Hd ac;clear M ac f;have s:Hid (∀V,Calls prog 106 #[.pointer (some ⟨C,0,none⟩),.string (S m)] V (SubG C m V)):=Hd (fun V=>ZaT C m V);unfold SubG at s;have r:Hid (∀V,Calls prog 106 #[.pointer (some ⟨C,0,none⟩),.string (S j)] V (SubG C j V)):=Hd (fun V=>ZaT C j V);unfold SubG at r;go_wp2_with fail;with_reducible refine(s.o t).mono ?_
 rintro e aq⟨l,h,rfl,ah,Z,ap,al,E⟩;go_wp2_with fail;with_reducible refine(r.o aq).mono ?_
 rintro e b⟨n,q,rfl,T,ae,az,aB,D⟩;have F:Below t.heap.size t b:=(E.trans (D.mono E.size));have g:Below b.heap.size b (b.alloc (.cells #[.func (.func 169) #[] #[.pointer (some ⟨l,0,none⟩),.pointer (some ⟨h,0,none⟩)],.func (.func 169) #[] #[.pointer (some ⟨n,0,none⟩),.pointer (some ⟨q,0,none⟩)]] 107)):=Zaa (Yab _ _) _;have O:=Box.new b #[.func (.func 169) #[] #[.pointer (some ⟨l,0,none⟩),.pointer (some ⟨h,0,none⟩)],.func (.func 169) #[] #[.pointer (some ⟨n,0,none⟩),.pointer (some ⟨q,0,none⟩)]] 107;have v:Below t.heap.size t (b.alloc (.cells #[.func (.func 169) #[] #[.pointer (some ⟨l,0,none⟩),.pointer (some ⟨h,0,none⟩)],.func (.func 169) #[] #[.pointer (some ⟨n,0,none⟩),.pointer (some ⟨q,0,none⟩)]] 107)):=F.trans (g.mono F.size);have aa:=k.o.lt;have a:Stands G am C [(l,h,m),(n,q,j)] (b.alloc (.cells #[.func (.func 169) #[] #[.pointer (some ⟨l,0,none⟩),.pointer (some ⟨h,0,none⟩)],.func (.func 169) #[] #[.pointer (some ⟨n,0,none⟩),.pointer (some ⟨q,0,none⟩)]] 107)):=⟨k.o.bel.trans (v.mono k.o.bel.size),(Yae (S:=fun _=>False) v).cell (k.o.cell 0 (by decide) ao.o) id,fun aF aD o U=>by
  have M:=E.size;simp only[Yai,Yat,or_false,Prod.mk.injEq]at U;rcases U with⟨rfl,rfl,rfl⟩|⟨rfl,rfl,rfl⟩
  ·exact⟨by omega,by omega,(ah.below D).below g,(Z.below D).below g⟩
  ·exact⟨by omega,by omega,T.below g,ae.below g⟩⟩
 have w:=Hd (Zbx ar.o aw.o k.o v (by have:=ax.o;omega) b.heap.size 2 2 [(l,h,m),(n,q,j)] rfl (by simp) (by simp) (fun i ak hq=>by
   match i,hq with
   |0,hq=>obtain rfl:=Yac hq;exact O.cell 0 rfl
   |1,hq=>obtain rfl:=Yac hq;exact O.cell 1 rfl
   |i+2,hq=>cases hq) F.size a (fun ak hq=>by simp only[Yai,Yat,or_false]at hq;rcases hq with rfl|rfl;exact(show m.length<=9223372036854775807 from(by have:=K.o;omega));exact(show j.length<=9223372036854775807 from(by have:=J.o;omega))) ay.o)
 have R:=Hd v;unfold Tk7G at w;clear ah Z ap al T ae az aB E D F g O v a aa;go_wp2_with fail;with_reducible refine w.o.mono ?_
 rintro e aA⟨aE,rfl,af,a,_,I,_,_⟩;have Y:=Hd (a aA (Yak _ _));have Q:=Hd ((R.o.mono k.o.lo1).trans I);clear af a I w;go_wp2;go_end0
 refine⟨rfl,?_,ai.o.trans Q.o⟩;unfold OpM.stk;rw[show(ZsH es d).put=fun _ _=>[]from rfl,YaN];have ak:=Y.o;rw[ad.o,X.o]at ak;exact ak
theorem Zkj {r lo:Nat}{p:Nat->Option Value}{x j W:World}{stk loc:List (List UInt8)}{er:Nat}(h:StW r lo p x j stk loc er)(d:Below j.heap.size j W)(b:Bool)(e:Nat) :
  Calls prog 19 #[.pointer (some ⟨r,0,none⟩),.bool b,.int .i64 (e:Nat)] W (fun en c=>en=.returned (.tuple #[])/\(∀V,Only (fun i=>j.heap.size<=i) c V->StW r lo p x V stk loc (reqE er b e))/\Below lo W c/\Only (fun i=>i=r) W c):=by
 obtain⟨cs,sv,F,E,G,H,B,y,C,v,s,t,m,w⟩:=h.ex;have q:=h.under d;have J:=h.lt;refine(Zch r er e b cs W (C.below d) y).mono (fun en c ⟨A,z,D⟩=>?_);have k:Only (fun i=>i=r) W c:=by
  rcases D with rfl|rfl
  ·exact Yak _ _
  ·exact(Yak (fun i=>i=r) W).setCell (p:=⟨r,13,none⟩) rfl _
 have f:Below lo W c:=k.below q.lo1 (fun i e=>by rw[e];exact q.lo3);refine⟨A,fun V l=>?_,f,k⟩;have u:Below lo c V:=l.below (Yaj q.lo1 f.size) (fun i e=>Yaj h.lo1 e);have n:=f.trans u;refine⟨⟨_,sv,F,by simp[E],fun K I=>?_,?_,?_,ZdP y,z.keep l (by omega),((v.below d).keep k (fun g a e=>t (e▸a))).keep l (fun g a e=>by have:=(v.own g a).2;omega),((s.below d).keep k (fun g a e=>m (e▸a))).keep l (fun g a e=>by have:=(s.own g a).2;omega),t,m,w⟩,Yaj q.lo1 n.size,q.lo2,q.lo3,q.bel.trans (n.mono q.lo2)⟩
 ·rw[ZaG (by omega)];exact G K I
 ·rw[ZaG (by decide)];exact H
 ·rw[ZaG (by decide)];exact B
def Zez (es:List Ent)(s:List UInt8):Option (Nat×Mth):=Zbt es (Zad es (clsP s)) (nmP s)
def Zeh (es:List Ent)(s:List UInt8):List (List UInt8):=match Zez es s with
 |none=>[]
 |some a=>a.2.params
def Zep (es:List Ent)(s:List UInt8):List UInt8:=match Zez es s with
 |none=>[]
 |some a=>a.2.res
def Zjw (s lo:Nat)(p:Nat->Option Value)(g:World)(n rs:List UInt8)(ps:List (List UInt8))(ok:Bool)(stk loc:List (List UInt8))(er:Nat)(W:World)(e:Ending)(a:World):Prop:=
 ∃i c b j l m d h f r q,e=.returned (.tuple #[.string (S n),.agg #[.string i,.slice c ps.length b,.string (S rs),.bool j,.int .i64 l,.slice m d h,.slice f r q]])/\Src 1 StrR (fun k=>W.heap.size<=k) a (.slice c ps.length b) ps/\StW s lo p g a stk loc (reqE er ok 76)/\Below lo W a
theorem Znu {w:World}{b:Nat}{cs:Array Value}{t:TypeId}(a:Box w b cs t):Box w.drew b cs t:=a
theorem ZpE:(prog.info? 26).map (·.size)=some 7:=by kernel_rfl
theorem Znx {A:Nat->Prop}{B:Nat->Nat}{a2 bp:Nat}{es:List Ent}{ab:World}(aH:Tab A ab a2 bp B es)(aO:Shape es)(ad:∀i,(Zal es i).length<=9223372036854775807)(ao:∀i,∀m∈Zal es i,m.Small){al lo:Nat}{p:Nat->Option Value}(aT:p 0=some (.pointer (some ⟨a2,0,none⟩))){W:World}{stk loc:List (List UInt8)}{er:Nat}{c:List UInt8}(aY:p 10=some (.string (S c)))(aq:c.length<=1000)(af:StW al lo p ab W stk loc er) :
  Calls prog 109 #[.pointer (some ⟨al,0,none⟩)] W (Zjw al lo p ab (clsP c) (Zep es c) (Zeh es c) (Zez es c).isSome stk loc er W):=by
 obtain⟨aD,O⟩:∃z:Array Value,z=#[.string ⟨#[]⟩,.slice none 0 0,.string ⟨#[]⟩,.bool false,.int .i64 0,.slice none 0 0,.slice none 0 0]:=⟨_,rfl⟩
 have aQ:=Hd O;have ac:Below W.heap.size W (W.alloc (.cells aD 26)):=Zaa (Yab _ _) _;have Q:=Box.new W aD 26;have am:=(af.under ac).cell 10 (by decide) aY;have a1:=Zhm c;have F:Hid (∀V,Below W.heap.size W V->Calls prog 173 #[.pointer (some ⟨a2,0,none⟩),.string (S (clsP c)),.string (S (nmP c))] V (fun e w'=>∃aI u E n s g t f d r h,e=.returned (.tuple #[.string aI,.agg #[.string u,E,.string (S (Zep es c)),.bool n,(.int .i64 s),.slice g t f,.slice d r h],.bool (Zez es c).isSome])/\Src 1 StrR (fun k=>V.heap.size<=k) w' E (Zeh es c)/\Below V.heap.size V w')):=Hd (fun V R=>by
  refine(Zj6 aH aO ad ao (clsP c) (nmP c) (by omega) V (af.bel.trans (R.mono af.bel.size))).mono (fun e w' az=>?_);obtain⟨aF,az⟩:=az;rcases az with⟨aB,rfl⟩|⟨x,m,v,aB,rfl,a4⟩
  ·have y:Zez es c=none:=aB;refine⟨⟨#[]⟩,⟨#[]⟩,.slice none 0 0,false,0,none,0,0,none,0,0,?_,?_,aF⟩
   ·unfold Zep;rw[y];rfl
   ·unfold Zeh;rw[y];exact Src.nil
  ·have y:Zez es c=some (x,m):=aB;obtain⟨E,bw,bx,rfl,ay,aa,aK⟩:=a4;obtain⟨g,f,rfl⟩:=aa.shape;obtain⟨d,h,rfl⟩:=aK.shape;refine⟨S (nmE es x),S m.name,E,m.abs,m.loc,g,m.code.length,f,d,m.cats.length,h,?_,?_,aF⟩
   ·unfold Zep;rw[y];rfl
   ·unfold Zeh;rw[y];exact ay)
 have aj:Hid (∀V b,Below W.heap.size W V->Calls prog 19 #[.pointer (some ⟨al,0,none⟩),.bool b,.int .i64 (76:Nat)] V (fun en aC=>en=.returned (.tuple #[])/\(∀aX,Only (fun i=>W.heap.size<=i) aC aX->StW al lo p ab aX stk loc (reqE er b 76))/\Below lo V aC/\Only (fun i=>i=al) V aC)):=Hd (fun V b R=>Zkj af R b 76);have aW:Hid (∀V,Below W.heap.size W V->V.cell? ⟨al,0,none⟩=some (.pointer (some ⟨a2,0,none⟩))):=Hd (fun V R=>(af.under R).cell 0 (by decide) aT);have M:=Hd af.lo1;have Z:=Hd af.lt;obtain⟨bm,L⟩:∃V,V=W.alloc (.cells aD 26):=⟨_,rfl⟩
 rw[←L]at ac Q am;obtain⟨z,ag⟩:=Zg3 c bm aq;have G:=Hd ag;have aw:=Hd ac;have aN:=Hd Q;clear aH aO ad ao aT aY aq af ag a1 ac Q;generalize Zep es c=rs at F⊢;generalize Zeh es c=ps at F⊢;generalize (Zez es c).isSome=ok at F⊢;generalize clsP c=aE at G F⊢;generalize nmP c=aI at G F;go_enter func109,ntmps109
 go_upto_region 1 with fail;rw[←O,←L];clear L O;go_wp2_with fail;with_reducible refine G.o.mono ?_
 rintro e av⟨rfl,Y⟩;have q:=Hd (aw.o.trans (Y.mono aw.o.size));have ai:=Hd (aN.o.below Y);have bb:=aW.o av q.o;clear am Y G;go_wp2_with fail;with_reducible refine(F.o av q.o).mono ?_
 rintro e w2⟨bu,u,E,n,s,g,t,f,d,r,h,rfl,T,w⟩;have H:Below w2.heap.size w2 (w2.alloc (.cells #[.string u,E,.string (S rs),.bool n,.int .i64 s,.slice g t f,.slice d r h] 26)):=Zaa (Yab _ _) _;have ap:=Box.new w2 #[.string u,E,.string (S rs),.bool n,.int .i64 s,.slice g t f,.slice d r h] 26;have ar:=Hd (q.o.trans ((w.trans (H.mono w.size)).mono q.o.size));have aZ:=Hd ((ai.o.below w).below H);have aJ:=Hd (StrR.st.below T H);have U:=Hd q.o.size;have aG:Hid (W.heap.size<av.heap.size):=Hd (ai.o.lt);have au:=Hd (aj.o _ ok ar.o);have a0:=Hd ap;have aS:=Hd (q.o.trans (w.mono q.o.size)).size;obtain⟨C,D,rfl⟩:=T.shape;clear T w H ap bb F aj;go_wp2_with fail;refine au.o.mono ?_;rintro e N⟨rfl,X,ah,I⟩;have a:Hid (Box N W.heap.size #[.string ⟨#[]⟩,.slice none 0 0,.string ⟨#[]⟩,.bool false,.int .i64 0,.slice none 0 0,.slice none 0 0] 26):=Hd (by have bv:=aZ.o.keep I (fun e=>by have:=Z.o;omega);rw[aQ.o]at bv;exact bv);have j:=Hd (a0.o.keep I (fun e=>by have ay:=Z.o;have aa:=aS.o;omega));have aA:=Hd (StrR.st.src aJ.o I (fun k aU e=>by have ay:=Z.o;have aa:=U.o;omega));have aV:=a.o.lt;obtain⟨ae,K⟩:=set7 a.o (.string u) (.slice C ps.length D) (.string (S rs)) (.bool n) (.int .i64 s) (.slice g t f) (.slice d r h);have J:=K.drew;have aR:Box ((((((((N.setCell ⟨W.heap.size,0,none⟩ (.string u)).setCell ⟨W.heap.size,1,none⟩ (.slice C ps.length D)).setCell ⟨W.heap.size,2,none⟩ (.string (S rs))).setCell ⟨W.heap.size,3,none⟩ (.bool n)).setCell ⟨W.heap.size,4,none⟩ (.int .i64 s)).setCell ⟨W.heap.size,5,none⟩ (.slice g t f)).setCell ⟨W.heap.size,6,none⟩ (.slice d r h)).drew) W.heap.size #[(.string u),(.slice C ps.length D),(.string (S rs)),(.bool n),(.int .i64 s),(.slice g t f),(.slice d r h)] 26:=Znu ae;have ak:Below lo N ((((((((N.setCell ⟨W.heap.size,0,none⟩ (.string u)).setCell ⟨W.heap.size,1,none⟩ (.slice C ps.length D)).setCell ⟨W.heap.size,2,none⟩ (.string (S rs))).setCell ⟨W.heap.size,3,none⟩ (.bool n)).setCell ⟨W.heap.size,4,none⟩ (.int .i64 s)).setCell ⟨W.heap.size,5,none⟩ (.slice g t f)).setCell ⟨W.heap.size,6,none⟩ (.slice d r h)).drew):=J.below (Yaj M.o (by omega)) (fun i e=>by rw[e];exact M.o);have aP:=Hd ((ar.o.mono M.o).trans (ah.trans ak));have aM:=Hd (X _ (J.mono (fun i _ e=>by rw[e];exact Yad _)));have ax:=Hd (StrR.st.src aA.o J (fun k aU e=>by have aa:=U.o;have aK:=aw.o.size;have bz:=aG.o;omega));have bc:=Hd aR;have bk:=j.o.cell 0 rfl;have bt:=j.o.cell 1 rfl;have bh:=j.o.cell 2 rfl;have bo:=j.o.cell 3 rfl;have br:=j.o.cell 4 rfl;have bj:=j.o.cell 5 rfl;have a3:=j.o.cell 6 rfl;have a5:=a.o.cell 0 rfl;have a8:=a.o.free 0;have bg:=a.o.cell 1 rfl;have bn:=a.o.free 1;have bs:=a.o.cell 2 rfl;have a6:=a.o.free 2;have bl:=a.o.cell 3 rfl;have bf:=a.o.free 3;have bd:=a.o.cell 4 rfl;have bi:=a.o.free 4;have bq:=a.o.cell 5 rfl;have a7:=a.o.free 5;have a9:=a.o.cell 6 rfl;have ba:=a.o.free 6;have aL:Hid (Zjw al lo p ab aE rs ps ok stk loc er W (.returned (.tuple #[.string (S aE),.agg #[(.string u),(.slice C ps.length D),(.string (S rs)),(.bool n),(.int .i64 s),(.slice g t f),(.slice d r h)]])) (((((((N.setCell ⟨W.heap.size,0,none⟩ (.string u)).setCell ⟨W.heap.size,1,none⟩ (.slice C ps.length D)).setCell ⟨W.heap.size,2,none⟩ (.string (S rs))).setCell ⟨W.heap.size,3,none⟩ (.bool n)).setCell ⟨W.heap.size,4,none⟩ (.int .i64 s)).setCell ⟨W.heap.size,5,none⟩ (.slice g t f)).setCell ⟨W.heap.size,6,none⟩ (.slice d r h)).drew):=Hd ⟨_,_,_,_,_,_,_,_,_,_,_,rfl,StrR.st.srcMono ax.o (fun k _ aU=>by have aa:=U.o;omega),aM.o,aP.o⟩;clear X ah I J ak aV au aR ae K;go_upto_region 4 with fail;go_region
 all_goals
  clear bk bt bh bo br bj a3 a5 bg bs bl bd bq a9 a8 bn a6 bf bi a7 ba;go_wp2;have l:=ZaS (P:=prog) (ty:=26) bc.o underlying26 rfl ZpE;refine bodyPost_ret (v:=.tuple #[.string (S aE),.agg #[(.string u),(.slice C ps.length D),(.string (S rs)),(.bool n),(.int .i64 s),(.slice g t f),(.slice d r h)]]) ?_ rfl aL.o;simp only[results,results109];simp[asAddr,l]
def Zij (es:List Ent)(a:List UInt8):OpM:=⟨fun _=>reqE 0 (Zez es a).isSome 76,(Zeh es a).length+1,Zfr es (clsP a::Zeh es a),fun _ _=>if Zep es a=[]then[]else[Zep es a],none⟩
abbrev subV (a:Nat×Nat×List UInt8):Value:=.func (.func 169) #[] #[.pointer (some ⟨a.1,0,none⟩),.pointer (some ⟨a.2.1,0,none⟩)]
theorem ZpN (a:Nat×Nat×List UInt8):(subV a).oneCell'=true:=rfl
theorem ZqE:(prog.info? 107).map (fun i=>(i.zero,i.size,i.bytes))=some (some .nilFunc,1,8):=by kernel_rfl
structure Zh9 (w0:World) (T X:Nat) (wA:World) (l:List (Nat×Nat×List UInt8)) (v:Value) (W:World):Prop where
 st:Stands w0 T X l W
 row:KRF subV 107 wA.heap.size W v l
 dj:∀c1 c2 o,(c1,c2,o)∈l->v.ownBlock≠some c1/\v.ownBlock≠some c2
 bel:Below wA.heap.size wA W
theorem Zm5 {G:World}{ag aa:Nat}{wA W V:World}{l:List (Nat×Nat×List UInt8)}{v:Value}(u:Zh9 G ag aa wA l v W)(ap:l.length<=1048576)(ad:aa<wA.heap.size)(U:G.heap.size<=wA.heap.size)(h f:Nat)(o:List UInt8)(Z:Box V h #[.pointer (some ⟨aa,0,none⟩)] 55)(M:Box V f #[.string (S o)] 9)(J:W.heap.size<=h)(I:W.heap.size<=f)(C:Below W.heap.size W V)(ty:TypeId) :
  ∃z w',(Builtin.append_ #[125,125] ty #[v,.slice (some ⟨V.heap.size,0,none⟩) 1 1]).run prog (V.alloc (.cells #[subV (h,f,o)] 107))=.ok z w'/\Zh9 G ag aa wA (l++[(h,f,o)]) z w':=by
 obtain⟨ab,O,Q,T,K⟩:=info_parts ZqE;have t:Below V.heap.size V (V.alloc (.cells #[subV (h,f,o)] 107)):=Zaa (Yab _ _) _;have j:Below W.heap.size W (V.alloc (.cells #[subV (h,f,o)] 107)):=C.trans (t.mono C.size);have aj:=u.bel.size;have ah:=C.size;have ak:=t.size;obtain⟨z,w',ae,A,r⟩:=KRF.append (P:=prog) (w:=V.alloc (.cells #[subV (h,f,o)] 107)) (b:=V.heap.size) (o:=0) (m:=1) (c:=1) (xs:=[(h,f,o)]) ZpN 125 ty ab _ 8 underlying125 O Q T K rfl (u.row.below j) (by omega) rfl (fun k x A=>by
  cases k with
  |zero=>simp at A;subst A;exact(Box.new V #[subV (h,f,o)] 107).cell 0 rfl
  |succ k=>simp at A) (by simp;omega) (by simp;omega)
 have y:∀g,v.ownBlock=some g->wA.heap.size<=g/\g<W.heap.size:=u.row.own;have q:∀c,c<wA.heap.size\/W.heap.size<=c->v.ownBlock≠some c:=fun c am e=>by have:=y c e;omega
 have B:Below wA.heap.size (V.alloc (.cells #[subV (h,f,o)] 107)) w':=r.only.below (by omega) (fun i e=>(y i e).1);refine⟨z,w',ae,⟨⟨(u.st.bel.trans (j.mono u.st.bel.size)).trans (B.mono U),?_,fun p n X a=>?_⟩,A,fun p n X a=>?_,(u.bel.trans (j.mono u.bel.size)).trans B⟩⟩
 ·exact r.only.cell ((Yae (S:=fun _=>False) j).cell u.st.tab id) (fun e=>q aa (.inl ad) e)
 ·rcases Yaq.1 a with a|a
  ·obtain⟨L,R,F,E⟩:=u.st.box p n X a;obtain⟨D,H⟩:=u.dj p n X a;exact⟨L,R,(F.below j).keep r.only D,(E.below j).keep r.only H⟩
  ·simp only[Yax,Prod.mk.injEq]at a;obtain⟨rfl,rfl,rfl⟩:=a;exact⟨by omega,by omega,(Z.below t).keep r.only (q p (.inr J)),(M.below t).keep r.only (q n (.inr I))⟩
 ·have N:=Z.lt;have Y:=M.lt;have s:∀d,(v.ownBlock≠some d)->d<V.heap.size->z.ownBlock≠some d:=fun d ac ai e=>by
   rcases r.came with af|af
   ·exact ac (af▸e)
   ·have:=af d e;omega
  rcases Yaq.1 a with a|a
  ·obtain⟨L,R,F,E⟩:=u.st.box p n X a;obtain⟨D,H⟩:=u.dj p n X a;have ao:=F.lt;have al:=E.lt;exact⟨s p D (by omega),s n H (by omega)⟩
  ·simp only[Yax,Prod.mk.injEq]at a;obtain⟨rfl,rfl,rfl⟩:=a;exact⟨s p (q p (.inr J)) N,s n (q n (.inr I)) Y⟩
theorem ZkB {g:World}{n p:Nat}{wA V:World}(a b:Nat)(o:List UInt8)(h:Stands g n p [(a,b,o)] (V.alloc (.cells #[subV (a,b,o)] 107)))(c:Below wA.heap.size wA V)(q:a<V.heap.size)(r:b<V.heap.size) :
  Zh9 g n p wA [(a,b,o)] (.slice (some ⟨V.heap.size,0,none⟩) 1 1) (V.alloc (.cells #[subV (a,b,o)] 107)):=by
 have f:Below V.heap.size V (V.alloc (.cells #[subV (a,b,o)] 107)):=Zaa (Yab _ _) _;refine⟨h,?_,fun k j s d=>?_,c.trans (f.mono c.size)⟩
 ·unfold KRF;exact Zfw (Zqf (Box.new V #[subV (a,b,o)] 107) rfl (by decide)) (fun i m=>by obtain rfl:V.heap.size=i:=Yac m;exact c.size)
 ·simp only[Yax,Prod.mk.injEq]at d;obtain⟨rfl,rfl,rfl⟩:=d;exact⟨fun e=>by have l:V.heap.size=k:=Yac e;omega,fun e=>by have l:V.heap.size=j:=Yac e;omega⟩
theorem Zqg {A:Nat->Prop}{B:Nat->Nat}{bg bQ:Nat}{es:List Ent}{K:World}(a8:Tab A K bg bQ B es)(ba:Shape es)(aI:∀i,(Zal es i).length<=9223372036854775807)(aR:∀i,∀m∈Zal es i,m.Small){al lo:Nat}{p:Nat->Option Value}(bc:p 0=some (.pointer (some ⟨bg,0,none⟩))){W:World}{stk loc:List (List UInt8)}{d:List UInt8}(bD:p 10=some (.string (S d)))(aS:d.length<=1000)
  (aP:(Zeh es d).length<=1000)(a3:∀x∈Zeh es d,x.length<=1000000)(a2:(Zep es d).length<=1000000)(bU:StW al lo p K W stk loc 0)(bx:stk.length<=1000)(ae:∀x∈stk,x.length<=9223372036854775807) :
  Calls prog 63 #[.pointer (some ⟨al,0,none⟩)] W (OpG al lo p K (Zij es d) stk loc W):=by
 have h:=Hd (Znx a8 ba aI aR bc bD aS bU);have aj:Hid (∀V o,Calls prog 106 #[.pointer (some ⟨al,0,none⟩),.string (S o)] V (SubG al o V)):=Hd (fun V o=>ZaT al o V);have bK:=Hd a8;have bG:=Hd ba;have bN:=Hd bc;have br:=Hd bx;have bH:=Hd ae;have aJ:=Hd a3;have aU:=Hd a2;have L:=Hd aP;have aW:Hid ((clsP d).length<=1000):=Hd (by have:=Zhm d;omega);have aE:Hid ((Zij es d).e0 loc=reqE 0 (Zez es d).isSome 76):=Hd rfl;have ak:Hid ((Zij es d).m=(Zeh es d).length+1):=Hd rfl;have E:Hid ((Zij es d).bs=Zfr es (clsP d::Zeh es d)):=Hd rfl;have M:Hid (∀t l,(Zij es d).put t l=if Zep es d=[]then[]else[Zep es d]):=Hd (fun _ _=>rfl);have ac:Hid ((Zij es d).setl=none):=Hd rfl;unfold SubG at aj;unfold Zjw at h;clear a8 ba aI aR bc bD aS aP a3 a2 bU bx ae;generalize Zij es d=bX at aE ak E M ac⊢;generalize Zep es d=rs at h aU M;generalize bC:Zeh es d=ps at h aJ L ak E;generalize (Zez es d).isSome=ok at h aE;generalize clsP d=r at h aW E;clear bC;obtain⟨s,ab⟩:∃n,n=ps.length:=⟨_,rfl⟩
 rw[←ab]at h L ak;have ag:=Hd ab;clear ab;go_enter func63,ntmps63
 go_wp2_with fail;with_reducible refine h.o.mono ?_
 rintro e j⟨aH,ap,aw,ar,aF,ay,aG,ax,ao,aB,aC,rfl,aQ,X,a0⟩;have aD:Below j.heap.size j (j.alloc (.cells #[.string aH,.slice ap s aw,.string (S rs),.bool ar,.int .i64 aF,.slice ay aG ax,.slice ao aB aC] 26)):=Zaa (Yab _ _) _;have af:=Box.new j #[.string aH,.slice ap s aw,.string (S rs),.bool ar,.int .i64 aF,.slice ay aG ax,.slice ao aB aC] 26;have H:(j.alloc (.cells #[.string aH,.slice ap s aw,.string (S rs),.bool ar,.int .i64 aF,.slice ay aG ax,.slice ao aB aC] 26)).heap.size=j.heap.size+1:=by simp
 have I:=Hd X;have bw:=Hd a0;have ai:=Hd aQ;clear aQ X a0 h;go_upto_region 1 with fail;obtain⟨wA,aO⟩:∃V,V=(j.alloc (.cells #[.string aH,.slice ap s aw,.string (S rs),.bool ar,.int .i64 aF,.slice ay aG ax,.slice ao aB aC] 26)):=⟨_,rfl⟩
 rw[←aO]at aD af H⊢;clear aO;have au:=Hd aD;have aV:=Hd af;have a1:=Hd H;have bl:=Hd (Src.elem (StrR.st.below ai.o aD));clear aD af H ai;go_wp2_with fail;with_reducible refine(aj.o wA r).mono ?_
 rintro e w2⟨G,D,rfl,P,O,aA,av,Y⟩;have am:Below w2.heap.size w2 (w2.alloc (.cells #[subV (G,D,r)] 107)):=Zaa (Yab _ _) _;have q:Below j.heap.size j (w2.alloc (.cells #[subV (G,D,r)] 107)):=au.o.trans ((Y.trans (am.mono Y.size)).mono au.o.size);have bj:=I.o.lt;have ah:=a1.o;have bz:=Y.size;have C:Stands K bg al [(G,D,r)] (w2.alloc (.cells #[subV (G,D,r)] 107)):=⟨I.o.bel.trans (q.mono I.o.bel.size),(Yae (S:=fun _=>False) q).cell (I.o.cell 0 (by decide) bN.o) id,fun az aq o bi=>by
  simp only[Yai,Yat,or_false,Prod.mk.injEq]at bi;obtain⟨rfl,rfl,rfl⟩:=bi;exact⟨by omega,by omega,P.below am,O.below am⟩⟩
 have F:=ZkB (wA:=wA) G D r C Y P.lt O.lt;have f:=Hd F;have aL:Hid (al<wA.heap.size/\K.heap.size<=wA.heap.size):=Hd ⟨by omega,by have:=I.o.bel.size;omega⟩;clear P O aA av am q bj ah bz C F Y;obtain⟨bO,U⟩:∃V,V=w2.alloc (.cells #[.func (.func 169) #[] #[.pointer (some ⟨G,0,none⟩),.pointer (some ⟨D,0,none⟩)]] 107):=⟨_,rfl⟩
 have aM:Hid (Zh9 K bg al wA [(G,D,r)] (.slice (some ⟨w2.heap.size,0,none⟩) 1 1) bO):=Hd (by rw[U];exact f.o);have bI:=(aV.o.below aM.o.bel).cell 1 rfl;clear f;go_upto_region 2 with fail;rw[←U];clear U;go_wp2_with fail;clear bI;have bM:=L.o;go_loopw [4,19] (fun bT Z wr=>∃(k:Nat) (l:List (Nat×Nat×List UInt8)),k<=s/\Z=.int .i64 k/\l.map (fun y=>y.2.2)=r::ps.take k/\Zh9 K bg al wA l bT wr) (fun _ Z _=>s-(intOf Z).toNat)
 case atStart=>exact⟨0,[(G,D,r)],Yao _,rfl,by simp,aM.o⟩
 case round=>
  obtain⟨k,l,ae,rfl,ad,F⟩:=hrel;have a4:=Hd ad;have f:=Hd F;have w:Hid (l.length=k+1):=Hd (by have y:=Ya8 List.length ad;rw[YaB,YaI,YaA,←ag.o,Ybe ae]at y;exact y);clear ad F;by_cases aK:k<s
  ·obtain⟨z,R⟩:∃z,ps[k]?=some z:=⟨_,Yaa (by rw[←ag.o];exact aK)⟩
   obtain⟨b,o,u,rfl,bS,_,a6⟩:=bl.o k z R;obtain rfl:=bS;have bR:wr.cell? ⟨b,o+k,none⟩=some (.string (S z)):=(Yae (S:=fun _=>False) f.o.bel).cell (a:=⟨b,o+k,none⟩) (by have y:=a6 0 _ rfl;rw[YaH]at y;exact y) id;have bb:Hid (ps.take (k+1)=ps.take k++[z]):=Hd (by rw[YaK,R];rfl);have bW:(0:Int)<=(k:Int):=by omega
   have bV:(k:Int)<(s:Int):=by omega
   clear a6 R;go_wp2_with fail;with_reducible refine(aj.o wr z).mono ?_
   rintro e bu⟨az,aq,rfl,P,O,aA,av,b5⟩;obtain⟨bh,w',bB,aa⟩:=Zm5 f.o (by have:=w.o;have:=L.o;omega) aL.o.1 aL.o.2 az aq z P O aA av b5 125;have bP:Hid ((Builtin.append_ #[125,125] 125 #[u4,.slice (some ⟨bu.heap.size,0,none⟩) 1 1]).run prog (bu.alloc (.cells #[.func (.func 169) #[] #[.pointer (some ⟨az,0,none⟩),.pointer (some ⟨aq,0,none⟩)]] 107))=.ok bh w'):=Hd bB;have bo:=Hd aa;have a9:Hid ((l++[(az,aq,z)]).map (fun y=>y.2.2)=r::ps.take (k+1)):=Hd (by rw[Ya9,a4.o,bb.o];rfl);clear bB aa P O aA av b5 bR;go_wp2_with (at_builtin;(refine Zak rfl _ _ 125 rfl _ _ bh w' rfl rfl bP.o ?_))
   go_wp2;go_roundw
   case rel=>exact⟨k+1,_,by omega,by go_num,a9.o,bo.o⟩
   case measure=>simp[intOf];omega
  ·obtain rfl:s=k:=by omega
   have J:l.map (fun y=>y.2.2)=r::ps:=by rw[a4.o,Yaz (by rw[←ag.o];exact Yad _)]
   obtain⟨g,c,bF,bf,bn⟩:=f.o.row.there (by rw[w.o];omega);subst bF;have a7:=f.o.row.own g rfl;have ah:=a1.o;have q:Below j.heap.size j wr:=au.o.trans (f.o.bel.mono au.o.size);have N:=Hd (Zbx bK.o bG.o I.o q (by have:=br.o;omega) g c l.length l rfl (by rw[w.o];omega) (by rw[w.o];omega) (fun i y bd=>by
    have Q:=World.ownsRow.cells (g:=g) f.o.row rfl i (subV y) (by rw[Yav,bd];rfl);rw[Ybn,Ya6]at Q;exact Q) (by omega) f.o.st (fun y bd=>by
     have Q:y.2.2∈l.map (fun y=>y.2.2):=Ya2.2 ⟨y,bd,rfl⟩;rw[J]at Q;rcases Yai.1 Q with e|e
     ·rw[e];have:=aW.o;omega
     ·have:=aJ.o _ e;omega) bH.o)
   have bk:=Hd (aV.o.below f.o.bel);have bt:=Hd (q.mono I.o.lo1);rw[J,w.o]at N;rw[w.o];unfold Tk7G at N;clear J bf bn a7 ah q ae aK;go_wp2_with fail;with_reducible refine N.o.mono ?_
   rintro e bL⟨b0,rfl,_,C,_,aN,_,_,_,_,_,a5,_⟩;have aX:=bk.o.keep a5 (fun e=>by rcases e with e|e;omega;exact e.elim);have bE:=aX.cell 2 rfl;have aT:=Hd (C bL (Yak _ _));have aZ:=Hd (bw.o.trans (bt.o.trans aN));clear C aN a5 aX N;by_cases v:rs=[]
   ·have T:S rs=⟨#[]⟩:=by rw[v];rfl
    rw[T]at bE;have bp:Hid (∀t l,bX.put t l=[]):=Hd (fun t l=>by rw[M.o,Yay v]);clear v T;go_wp2;go_end0
    refine⟨rfl,?_,aZ.o⟩;unfold OpM.stk OpM.loc OpM.er;rw[bp.o,ac.o,aE.o,ak.o,E.o,YaN];exact aT.o
   ·have T:rs.isEmpty=false:=by
     cases rs with
     |nil=>exact absurd rfl v
     |cons _ _=>rfl
    have bZ:=Zaf rs;have bm:Hid (∀t l,bX.put t l=[rs]):=Hd (fun t l=>by rw[M.o,Yar v]);have aY:=Hd (ZaY (n:=1) aT.o [rs] #[.string (S rs)] rfl rfl (by simp) (by have Q:=br.o;have b1:=Zbh (s+1) stk (reqE 0 ok 76);omega) (fun z R=>by simp only[Yai,Yat,or_false]at R;have:=aU.o;rw[R];omega) 9);clear v;go_wp2_with fail;refine aY.o.mono ?_;rintro e bY⟨rfl,bq,bA⟩;have bJ:=Hd bq;have bv:=Hd (aZ.o.trans bA);clear bq bA aY bE;go_wp2;go_end0
    refine⟨rfl,?_,bv.o⟩;unfold OpM.stk OpM.loc OpM.er;rw[bm.o,ac.o,aE.o,ak.o,E.o];exact bJ.o
