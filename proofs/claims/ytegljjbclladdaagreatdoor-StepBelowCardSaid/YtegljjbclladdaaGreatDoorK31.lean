/- laws -/
import Derived.Test.YtegljjbclladdaaGreatDoorK30
set_option maxRecDepth 100000
set_option maxHeartbeats 16000000
namespace Go.Proofs.YtegljjbclladdaaGreatDoor
open Go.RowKit Tryz
def hasF (es:List Ent)(o:Option Nat)(n:List UInt8):Bool:=(Zan es o).any fun x=>(Za6 es x).any fun f=>f.name==n
theorem Zod {w:World}{f:Fld}{n:List UInt8}{c:Nat}(d:w.cell? ⟨c,0,none⟩=some (.string (S n))) :
  Calls prog 145 #[fldV f,.pointer (some ⟨c,0,none⟩)] w (Said (f.name==n) w):=by
 have b:=Zaf f.name;have g:=Zaf n;have a:c<w.heap.size:=World.block_lt_of_cell? w _ d;go_enter func145,ntmps145;go_wp2;go_ret;exact⟨rfl,(Yab _ w).alloc (Yad _) _⟩
theorem Zoc {A:Nat->Prop}{B:Nat->Nat}{G C:Nat}{es:List Ent}{l:World}(p:Tab A l G C B es)(h:∀(i:Nat) (e:Ent),es[i]?=some e->e.cls.flds.length<=32)(x:Nat)(s:x<es.length)(n:List UInt8)(c:Nat)(w:World)(y:Below l.heap.size l w)
  (D:w.cell? ⟨c,0,none⟩=some (.string (S n))) :
  Calls prog 144 #[entV B x,.pointer (some ⟨c,0,none⟩)] w (Said ((Za6 es x).any fun f=>f.name==n) w):=by
 have E:=Ymf;obtain⟨e,a⟩:∃e,es[x]?=some e:=⟨_,Yaa s⟩
 obtain⟨J,q,H,sv,m,_,j,_,_⟩:=(p.below y).ent x e a;have d:Za6 es x=e.cls.flds:=by unfold Za6;rw[a]
 have r:w.cell? ⟨B x,7,none⟩=some q:=m.cell 7 rfl;have b:=Hd (ZdT (A:=A) 145 #[.pointer (some ⟨c,0,none⟩)] (fun f=>f.name==n) e.cls.flds q w (Zac func145 (by kernel_rfl) rfl) j (fun k L v w' _ t z=>by
  obtain rfl:=z;exact Zod ((Yae (S:=fun _=>False) t).cell D id)) (by have:=h x e a;omega))
 obtain⟨F,fc,rfl⟩:=j.shape;rw[d];generalize (e.cls.flds.any fun f=>f.name==n)=K at b⊢;generalize e.cls.flds.length=k at b r;clear p h a m j d D s;go_enter func144,ntmps144
 go_wp2_with fail;refine b.o.mono ?_;rintro e I⟨rfl,g⟩;have u:=Hd g;clear g b r;go_wp2;go_ret;exact⟨rfl,u.o⟩
theorem ZiG {A:Nat->Prop}{B:Nat->Nat}{v r:Nat}{es:List Ent}{l:World}(j:Tab A l v r B es)(k:Shape es)(o:Option Nat)(q:∀i,o=some i->i<es.length)(n:List UInt8)(w:World)(b:Below l.heap.size l w) :
  Calls prog 89 #[ptrV B o,.string (S n)] w (Said (hasF es o n) w):=by
 have u:=Ymf;have a:Below w.heap.size w (w.alloc (.cells #[.string (S n)] 9)):=Zaa (Yab _ _) _;have m:=k.line o q;have c:=Hd (ZoL j 144 #[.pointer (some ⟨w.heap.size,0,none⟩)] (Zac func144 (by kernel_rfl) rfl) (Zan es o) o m (fun x=>(Za6 es x).any fun f=>f.name==n) _ (b.trans (a.mono b.size)) (fun x w' t h=>by
  obtain⟨e,s⟩:=ZbF m x t;exact Zoc j k.fl x (Yag.1 s).1 n w.heap.size w' (b.trans ((a.trans (h.mono a.size)).mono b.size)) (((Box.new w #[.string (S n)] 9).below h).cell 0 rfl)))
 have d:=Hd a;rw[show(Zan es o).any (fun x=>(Za6 es x).any fun f=>f.name==n)=hasF es o n from rfl]at c;generalize hasF es o n=C at c⊢;generalize ptrV B o=z at c⊢;clear j k q b a m;go_enter func89,ntmps89
 go_wp2_with fail;refine c.o.mono ?_;rintro e y⟨rfl,g⟩;have p:=Hd (d.o.trans (g.mono d.o.size));clear g c d;go_wp2;go_ret;exact⟨rfl,p.o⟩
def ZcQ (es:List Ent)(c:Cls):Bool:=!(c.flds.any fun f=>!Zb6 es f.kind)&&!(c.mths.any fun m=>m.params.any (fun s=>!Zb6 es s) || (!decide (m.res=[])&&!Zb6 es m.res))
theorem Zgf {A:Nat->Prop}{B:Nat->Nat}{k j:Nat}{es:List Ent}{b:World}(i:Tab A b k j B es)(s:List UInt8)(c:Nat)(w:World)(h:Below b.heap.size b w)(f:s.length<=9223372036854775807)(m:w.cell? ⟨c,0,none⟩=some (.pointer (some ⟨k,0,none⟩))) :
  Calls prog 146 #[.string (S s),.pointer (some ⟨c,0,none⟩)] w (Said (!Zb6 es s) w):=by
 have d:=Hd (Zhp i s w h f);generalize Zb6 es s=n at d⊢;clear i h f;go_enter func146,ntmps146
 go_wp2_with fail;refine d.o.mono ?_;rintro e l⟨rfl,a⟩;have g:=Hd a;clear a d m;go_wp2;go_ret;exact⟨rfl,g.o⟩
abbrev Zge (a:Nat):Value:=.func (.func 146) #[] #[.pointer (some ⟨a,0,none⟩)]
theorem ZnP {A:Nat->Prop}{B:Nat->Nat}{q p:Nat}{es:List Ent}{d:World}(m:Tab A d q p B es)(f:Fld)(a c:Nat)(w:World)(l:Below d.heap.size d w)(i:f.kind.length<=9223372036854775807)(r:w.cell? ⟨a,0,none⟩=some (.pointer (some ⟨q,0,none⟩)))(h:w.cell? ⟨c,0,none⟩=some (Zge a)) :
  Calls prog 148 #[fldV f,.pointer (some ⟨c,0,none⟩)] w (Said (!Zb6 es f.kind) w):=by
 have n:∀args w,(callFunc 146 args).run prog w=.ok (.enter 146 args) w:=Zac func146 (by kernel_rfl) rfl;have j:∀o:Obj,(w.alloc o).cell? ⟨c,0,none⟩=some (Zge a):=fun o=>((Yak (fun _=>False) w).alloc o).cell h id;have g:Hid (∀o:Obj,Calls prog 146 #[.string (S f.kind),.pointer (some ⟨a,0,none⟩)] (w.alloc o) (Said (!Zb6 es f.kind) (w.alloc o))):=Hd (fun o=>
  Zgf m f.kind a _ (Zaa l o) i (((Yak (fun _=>False) w).alloc o).cell r id))
 generalize (!Zb6 es f.kind)=t at g⊢;clear m l i r h;go_enter func148,ntmps148
 go_wp2_with fail;refine(g.o _).mono ?_;rintro e s⟨rfl,b⟩;have k:=Hd (((Yab _ w).alloc (Yad _) _).trans (b.mono (by simp)));clear b g j n;go_wp2;go_ret;exact⟨rfl,k.o⟩
def Zl8 (es:List Ent)(m:Mth):Bool:=m.params.any (fun s=>!Zb6 es s) || (!decide (m.res=[])&&!Zb6 es m.res)
theorem ZnQ {A A':Nat->Prop}{B:Nat->Nat}{ae V:Nat}{es:List Ent}{I:World}(K:Tab A I ae V B es)(m:Mth)(v:Value)(f H:Nat)(w:World)(F:Below I.heap.size I w)(U:MthR A' w m v)(c:m.Fit)(af:w.cell? ⟨f,0,none⟩=some (.pointer (some ⟨ae,0,none⟩)))(M:w.cell? ⟨H,0,none⟩=some (Zge f)) :
  Calls prog 149 #[v,.pointer (some ⟨H,0,none⟩)] w (Said (Zl8 es m) w):=by
 have X:∀args w,(callFunc 146 args).run prog w=.ok (.enter 146 args) w:=Zac func146 (by kernel_rfl) rfl;obtain⟨al,ak,ai,rfl,G,E,D⟩:=U;obtain⟨i,h,rfl⟩:=G.shape;obtain⟨q,n,rfl⟩:=E.shape;obtain⟨l,p,rfl⟩:=D.shape;have a:Below w.heap.size w (w.alloc (.cells #[.string (S m.name),.slice i m.params.length h,.string (S m.res),.bool m.abs,.int .i64 m.loc,.slice q m.code.length n,.slice l m.cats.length p] 26)):=(Yab _ w).alloc (Yad _) _;have C:=Hd a;have t:=Hd (Box.new w #[.string (S m.name),.slice i m.params.length h,.string (S m.res),.bool m.abs,.int .i64 m.loc,.slice q m.code.length n,.slice l m.cats.length p] 26);have y:=(Yae (S:=fun _=>False) a).cell M id;have r:Hid (∀W s,Below w.heap.size w W->Zaw s->Calls prog 146 #[.string (S s),.pointer (some ⟨f,0,none⟩)] W (Said (!Zb6 es s) W)):=Hd (fun W s j ac=>
  Zgf K s f W (F.trans (j.mono F.size)) ac ((Yae (S:=fun _=>False) j).cell af id))
 have O:Hid (Calls prog 150 #[.slice i m.params.length h,Zge f] (w.alloc (.cells #[.string (S m.name),.slice i m.params.length h,.string (S m.res),.bool m.abs,.int .i64 m.loc,.slice q m.code.length n,.slice l m.cats.length p] 26)) (Said (m.params.any fun s=>!Zb6 es s) (w.alloc (.cells #[.string (S m.name),.slice i m.params.length h,.string (S m.res),.bool m.abs,.int .i64 m.loc,.slice q m.code.length n,.slice l m.cats.length p] 26)))):=Hd (
  ZfL (A:=A') 146 #[.pointer (some ⟨f,0,none⟩)] (fun s=>!Zb6 es s) m.params _ _ X (StrR.st.below G a) (fun k x u w' aa P Z=>by
   obtain rfl:=Z;exact r.o w' x (a.trans (P.mono a.size)) (c.params x (Yaf aa))) c.n1)
 have L:Hid (∀W,Below w.heap.size w W->Calls prog 146 #[.string (S m.res),.pointer (some ⟨f,0,none⟩)] W (Said (!Zb6 es m.res) W)):=Hd (fun W j=>r.o W m.res j c.res);have ad:Hid (∀W,Below (w.alloc (.cells #[.string (S m.name),.slice i m.params.length h,.string (S m.res),.bool m.abs,.int .i64 m.loc,.slice q m.code.length n,.slice l m.cats.length p] 26)).heap.size (w.alloc (.cells #[.string (S m.name),.slice i m.params.length h,.string (S m.res),.bool m.abs,.int .i64 m.loc,.slice q m.code.length n,.slice l m.cats.length p] 26)) W->W.cell? ⟨H,0,none⟩=some (Zge f)):=Hd (fun W j=>(Yae (S:=fun _=>False) j).cell y id);unfold Zl8;generalize (m.params.any fun s=>!Zb6 es s)=R at O⊢;generalize (!Zb6 es m.res)=aj at L⊢;have Q:=Zaf m.res;clear G E D c a r K F af M;have ab:=t.o.cell 1 rfl;go_enter func149,ntmps149
 go_wp2_with fail;refine O.o.mono ?_;rintro e T⟨rfl,g⟩;have ag:=Hd g;have d:=Hd (C.o.trans (g.mono C.o.size));have N:=(t.o.below g).cell 2 rfl;have Y:=ad.o T g;clear g ab y;cases R
 case true=>
  go_wp2;go_ret;exact⟨rfl,d.o⟩
 case false=>
  by_cases b:m.res=[]
  ·rw[b]at N Q;go_wp2;go_ret;exact⟨by simp[b],d.o⟩
  ·have ah:m.res.isEmpty=false:=by simp[b]
   go_wp2_with fail;refine(L.o _ d.o).mono ?_;rintro e w2⟨rfl,z⟩;have J:=Hd (d.o.trans (z.mono d.o.size));clear z N Y;go_wp2;go_ret;exact⟨by simp[b],J.o⟩
theorem ZjK {A A':Nat->Prop}{B:Nat->Nat}{r ar:Nat}{es:List Ent}{aa:World}(R:Tab A aa r ar B es)(c:Cls)(v:Value)(w:World)(D:Below aa.heap.size aa w)(aq:ClsR A' w c v)(a:c.Fit) :
  Calls prog 90 #[.pointer (some ⟨r,0,none⟩),v] w (Said (ZcQ es c) w):=by
 have av:=Ymf;have af:∀args w,(callFunc 148 args).run prog w=.ok (.enter 148 args) w:=Zac func148 (by kernel_rfl) rfl;have ag:∀args w,(callFunc 149 args).run prog w=.ok (.enter 149 args) w:=Zac func149 (by kernel_rfl) rfl;obtain⟨ay,ax,aw,rfl,ai,P,T⟩:=aq;obtain⟨lo,n,rfl⟩:=ai.shape;obtain⟨h,fc,rfl⟩:=P.shape;obtain⟨j,i,rfl⟩:=T.shape;have x:Hid (∀W d b,Below w.heap.size w W->W.cell? ⟨d,0,none⟩=some (.pointer (some ⟨r,0,none⟩))->W.cell? ⟨b,0,none⟩=some (Zge d)->Calls prog 87 #[.slice h c.flds.length fc,.func (.func 148) #[] #[.pointer (some ⟨b,0,none⟩)]] W (Said (c.flds.any fun f=>!Zb6 es f.kind) W)):=Hd (fun W d b m V I=>
  ZdT (A:=A') _ _ (fun f=>!Zb6 es f.kind) c.flds _ W af (FldR.st.below P m) (fun k f u w' X l Y=>by
   obtain rfl:=Y;have g:=Yae (S:=fun _=>False) l;exact ZnP R f d b w' (D.trans ((m.trans (l.mono m.size)).mono D.size)) (a.flds f (Yaf X)).2 (g.cell V id) (g.cell I id)) a.n2)
 have H:Hid (∀W d b,Below w.heap.size w W->W.cell? ⟨d,0,none⟩=some (.pointer (some ⟨r,0,none⟩))->W.cell? ⟨b,0,none⟩=some (Zge d)->Calls prog 117 #[.slice j c.mths.length i,.func (.func 149) #[] #[.pointer (some ⟨b,0,none⟩)]] W (Said (c.mths.any (Zl8 es)) W)):=Hd (fun W d b m V I=>
  Zdn (A:=A') _ _ (Zl8 es) c.mths _ W ag (MthR.st.below T m) (fun k f u w' X l Y=>by
   have g:=Yae (S:=fun _=>False) l;exact ZnQ R f u d b w' (D.trans ((m.trans (l.mono m.size)).mono D.size)) Y (a.mths f (Yaf X)) (g.cell V id) (g.cell I id)) a.n3)
 have ac:ZcQ es c=(!(c.flds.any fun f=>!Zb6 es f.kind)&&!(c.mths.any (Zl8 es))):=rfl;rw[ac];generalize (c.flds.any fun f=>!Zb6 es f.kind)=am at x⊢;generalize c.mths.any (Zl8 es)=az at H⊢;have ah:(w.alloc (.cells #[.pointer (some ⟨r,0,none⟩)] 32)).heap.size=w.heap.size+1:=by simp
 have ak:((w.alloc (.cells #[.pointer (some ⟨r,0,none⟩)] 32)).alloc (.cells #[.string (S c.name),.string (S c.sup),.slice lo c.like.length n,.bool c.itf,.bool c.abs,.bool c.fin,.slice h c.flds.length fc,.slice j c.mths.length i] 70)).heap.size=w.heap.size+1+1:=by simp
 have K:Below w.heap.size w ((w.alloc (.cells #[.pointer (some ⟨r,0,none⟩)] 32)).alloc (.cells #[.string (S c.name),.string (S c.sup),.slice lo c.like.length n,.bool c.itf,.bool c.abs,.bool c.fin,.slice h c.flds.length fc,.slice j c.mths.length i] 70)):=Zaa (Zaa (Yab _ _) _) _;have ab:=(Box.new w #[.pointer (some ⟨r,0,none⟩)] 32).below (Zaa (Yab _ _) (.cells #[.string (S c.name),.string (S c.sup),.slice lo c.like.length n,.bool c.itf,.bool c.abs,.bool c.fin,.slice h c.flds.length fc,.slice j c.mths.length i] 70));have U:=Box.new (w.alloc (.cells #[.pointer (some ⟨r,0,none⟩)] 32)) #[.string (S c.name),.string (S c.sup),.slice lo c.like.length n,.bool c.itf,.bool c.abs,.bool c.fin,.slice h c.flds.length fc,.slice j c.mths.length i] 70;rw[ah]at U;have t:=Hd ak;have G:=Hd K;have Q:=Hd ab;have Z:=Hd U;clear R D ai P T a ac ah ak K ab U;go_enter func90,ntmps90
 go_upto_region 1 with fail;generalize (w.alloc (.cells #[.pointer (some ⟨r,0,none⟩)] 32)).alloc (.cells #[.string (S c.name),.string (S c.sup),.slice lo c.like.length n,.bool c.itf,.bool c.abs,.bool c.fin,.slice h c.flds.length fc,.slice j c.mths.length i] 70)=W2 at t G Q Z⊢;have y:(fun W=>Below w.heap.size w W/\W.cell? ⟨w.heap.size,0,none⟩=some (.pointer (some ⟨r,0,none⟩))/\Box W (w.heap.size+1) #[.string (S c.name),.string (S c.sup),.slice lo c.like.length n,.bool c.itf,.bool c.abs,.bool c.fin,.slice h c.flds.length fc,.slice j c.mths.length i] 70/\W.cell? ⟨W2.heap.size,0,none⟩=some (Zge w.heap.size)) (W2.alloc (.cells #[Zge w.heap.size] 107)):=by
  exact⟨Zaa G.o _,(Q.o.below (Zaa (Yab _ _) _)).cell 0 rfl,Z.o.below (Zaa (Yab _ _) _),(Box.new W2 #[Zge w.heap.size] 107).cell 0 rfl⟩
 have O:=Hd y;clear y;go_upto_region 2 with fail;refine Zau (fun W=>Below w.heap.size w W/\W.cell? ⟨w.heap.size,0,none⟩=some (.pointer (some ⟨r,0,none⟩))/\Box W (w.heap.size+1) #[.string (S c.name),.string (S c.sup),.slice lo c.like.length n,.bool c.itf,.bool c.abs,.bool c.fin,.slice h c.flds.length fc,.slice j c.mths.length i] 70/\W.cell? ⟨W2.heap.size,0,none⟩=some (Zge w.heap.size)) O.o ?_;rintro ap⟨s,z,C,E⟩;have M:=Hd s;have aj:=Hd z;have ae:=Hd C;have N:=Hd E;have al:=C.cell 6 rfl;have F:=Hd (x.o ap _ _ s z E);generalize W2.heap.size=b at N F t⊢;clear s z C E x t G Q Z;go_wp2_with fail;refine F.o.mono ?_;rintro e ao⟨rfl,p⟩;have q:=Hd (M.o.trans (p.mono M.o.size));have g:=Yae (S:=fun _=>False) p;have au:=(ae.o.below p).cell 7 rfl;have J:=Hd (H.o ao _ _ q.o (g.cell aj.o id) (g.cell N.o id));clear p g al F H;cases am
 case true=>
  go_wp2;go_ret;exact⟨rfl,q.o⟩
 case false=>
  go_wp2_with fail;refine J.o.mono ?_;rintro e w2⟨rfl,L⟩;have ad:=Hd (q.o.trans (L.mono q.o.size));clear L au J;go_wp2;go_ret;exact⟨rfl,ad.o⟩
def Zej (es:List Ent)(x:Nat):Bool:=(Za6 es x).any fun f=>hasF es (upAt es x) f.name
def ZfJ (es:List Ent)(x:Nat):Cls:=match es[x]? with|some e=>e.cls|none=>objC
theorem Zhl {es:List Ent}{x:Nat}{e:Ent}(a:es[x]?=some e):ZfJ es x=e.cls:=by unfold ZfJ;rw[a]
def chkT (es:List Ent)(x:Nat):Nat:=if Zej es x=true then 64 else if ZcQ es (ZfJ es x)=false then 65 else if ZaN es x=true then 66 else if Zb9 es x=true then 67 else 0
theorem Zql {A:Nat->Prop}{B:Nat->Nat}{O I:Nat}{es:List Ent}{u:World}(q:Tab A u O I B es)(z:Shape es)(C:Zdi es)(x:Nat)(D:x<es.length)(f:Fld)(c:Nat)(w:World)(i:Below u.heap.size u w)(N:w.cell? ⟨c,0,none⟩=some (entV B x)) :
  Calls prog 88 #[fldV f,.pointer (some ⟨c,0,none⟩)] w (Said (hasF es (upAt es x) f.name) w):=by
 obtain⟨e,l⟩:∃e,es[x]?=some e:=⟨_,Yaa D⟩
 have a:Below w.heap.size w (w.alloc (.cells #[.string (S f.name),.string (S f.kind),.bool f.tr] 82)):=Zaa (Yab _ _) _;obtain⟨b,j⟩:∃b,b=w.alloc (.cells #[.string (S f.name),.string (S f.kind),.bool f.tr] 82):=⟨_,rfl⟩
 have r:=Box.new w #[.string (S f.name),.string (S f.kind),.bool f.tr] 82;rw[←j]at a r;rw[Zcw l];obtain⟨L,t⟩:=Zc0 B e.up;have v:Hid (∀d,Below b.heap.size b d->Calls prog 89 #[.pointer L,.string (S f.name)] d (Said (hasF es e.up f.name) d)):=Hd (fun d k=>by
  rw[←t];exact ZiG q z e.up (fun Q M=>C x Q (ZbQ l M)) f.name d (i.trans ((a.trans (k.mono a.size)).mono i.size)))
 have s:Hid (∀d,Below b.heap.size b d->d.cell? ⟨c,0,none⟩=some (entV B x)/\d.cell? ⟨B x,9,none⟩=some (.pointer L)/\d.cell? ⟨w.heap.size,0,none⟩=some (.string (S f.name))):=Hd (fun d k=>by
  have p:=a.trans (k.mono a.size);obtain⟨_,_,_,_,E,_⟩:=(q.below (i.trans (p.mono i.size))).ent x e l;have J:=E.cell 9 rfl;exact⟨(Yae (S:=fun _=>False) p).cell N id,by rw[←t];exact J,(r.below k).cell 0 rfl⟩)
 generalize hasF es e.up f.name=R at v⊢;have h:Below b.heap.size b b:=Yab _ _;obtain⟨G,F,K⟩:=s.o _ h;have n:=Hd a;clear q z C D i N l t r a;go_enter func88,ntmps88
 go_upto_region 1 with fail;rw[←j];clear j;first
 |(go_region_held (fun d=>d.cell? ⟨c,0,none⟩=some (entV B x)/\d.cell? ⟨B x,9,none⟩=some (.pointer L)/\d.cell? ⟨w.heap.size,0,none⟩=some (.string (S f.name))) ((refine s.o _ ?_;(with_reducible repeat (first|exact Yab _ _|(apply Zae;rotate_left;assumption)|refine Zab ?_))))
   (first|((with_reducible refine(v.o _ ?_).mono ?_);(focus ((with_reducible repeat (first|exact Yab _ _|assumption|refine Zab ?_));done));rintro P H⟨rfl,g⟩)))
 |fail
 have m:Below b.heap.size b H:=(by first|exact Zae h g|exact Zae (Zab h) g|exact Zae (Zab (Zab h)) g);have y:=Hd (n.o.trans (m.mono n.o.size));clear g m v s G F K h;go_wp2;go_ret;exact⟨rfl,y.o⟩
theorem Zr3 {A:Nat->Prop}{B:Nat->Nat}{ap aA:Nat}{es:List Ent}{C:World}(y:Tab A C ap aA B es)(F:Shape es)(X:Zdi es)(D:∀i,(Zal es i).length<=32)(al:Zhf es)(L:∀i,(ZfJ es i).Fit)(x:Nat)(O:x<es.length)(w:World)(ai:Below C.heap.size C w) :
  Calls prog 29 #[.pointer (some ⟨ap,0,none⟩),entV B x] w (fun e w'=>e=.returned (.int .i64 (chkT es x:Nat))/\Below w.heap.size w w'):=by
 have aF:=Ymf;obtain⟨e,E⟩:∃e,es[x]?=some e:=⟨_,Yaa O⟩
 obtain⟨aJ,aM,aI,sv,ac,ah,Q,ag,_⟩:=y.ent x e E;obtain⟨lo,Y,rfl⟩:=ah.shape;obtain⟨z,fc,rfl⟩:=Q.shape;obtain⟨V,U,rfl⟩:=ag.shape;have P:=Zhl E;have ae:Za6 es x=e.cls.flds:=by unfold Za6;rw[E]
 have l:Below w.heap.size w (w.alloc (.cells #[entV B x] 77)):=Zaa (Yab _ _) _;obtain⟨d,M⟩:∃d,d=w.alloc (.cells #[entV B x] 77):=⟨_,rfl⟩
 have T:=Box.new w #[entV B x] 77;rw[←M]at T l;have n:∀a,Below d.heap.size d a->Below C.heap.size C a:=fun a c=>ai.trans ((l.trans (c.mono l.size)).mono ai.size);have p:Hid (∀a,Below d.heap.size d a->a.cell? ⟨w.heap.size,0,none⟩=some (entV B x)/\Box a (B x) (entC B x e (.slice lo e.cls.like.length Y) (.slice z e.cls.flds.length fc) (.slice V e.cls.mths.length U) sv) 80):=Hd (fun a c=>⟨(T.below c).cell 0 rfl,ac.below (n a c)⟩);have aj:Hid (∀a,Below d.heap.size d a->Calls prog 87 #[.slice z e.cls.flds.length fc,.func (.func 88) #[] #[.pointer (some ⟨w.heap.size,0,none⟩)]] a (Said (Zej es x) a)):=Hd (fun a c=>by
  unfold Zej;rw[ae];refine ZdT (A:=A) _ _ (fun f=>hasF es (upAt es x) f.name) e.cls.flds _ a (Zac func88 (by kernel_rfl) rfl) (FldR.st.below Q (n a c)) (fun k f u w' aO am ao=>?_) (by have:=F.fl x e E;omega);obtain rfl:=ao;have ab:=c.trans (am.mono c.size);exact Zql y F X x O f w.heap.size w' (n w' ab) ((T.below ab).cell 0 rfl))
 have W:Hid (∀a,Below d.heap.size d a->Calls prog 90 #[.pointer (some ⟨ap,0,none⟩),.agg #[.string (S e.cls.name),.string (S e.cls.sup),.slice lo e.cls.like.length Y,.bool e.cls.itf,.bool e.cls.abs,.bool e.cls.fin,.slice z e.cls.flds.length fc,.slice V e.cls.mths.length U]] a (Said (ZcQ es (ZfJ es x)) a)):=Hd (fun a c=>by
  rw[P];have au:ClsR A C e.cls (.agg #[.string (S e.cls.name),.string (S e.cls.sup),.slice lo e.cls.like.length Y,.bool e.cls.itf,.bool e.cls.abs,.bool e.cls.fin,.slice z e.cls.flds.length fc,.slice V e.cls.mths.length U]):=⟨_,_,_,rfl,ah,Q,ag⟩;exact ZjK y e.cls _ a (n a c) (Zcd au (n a c)) (by have:=L x;rwa [P]at this))
 have q:Hid (∀a,Below d.heap.size d a->Calls prog 91 #[entV B x] a (Said (ZaN es x) a)):=Hd (fun a c=>ZjN y F X D al x O a (n a c));have h:Hid (∀a,Below d.heap.size d a->Calls prog 92 #[entV B x] a (Said (Zb9 es x) a)):=Hd (fun a c=>ZoJ y F X (fun i=>by have:=D i;omega) x O a (n a c));obtain⟨R,r⟩:∃R,R=chkT es x:=⟨_,rfl⟩
 rw[←r];unfold chkT at r;generalize Zej es x=ar at aj r;generalize ZcQ es (ZfJ es x)=aw at W r;generalize ZaN es x=aD at q r;generalize Zb9 es x=aB at h r;have g:=Hd r;have Z:=Hd l;clear y F X D al L O ai E ac ah Q ag P ae l T n r;go_enter func29,ntmps29
 go_upto_region 1 with fail;rw[←M];clear M;obtain⟨s,b⟩:=p.o _ (Yab _ _);have ak:d.cell? ⟨B x,7,none⟩=some (.slice z e.cls.flds.length fc):=b.cell 7 rfl;clear b;go_wp2_with fail;with_reducible refine(aj.o _ (Yab _ _)).mono ?_
 rintro aL m⟨rfl,K⟩;have t:=Hd K;have N:=Hd (Z.o.trans (K.mono Z.o.size));clear K s ak aj;cases ar with
 |true=>
  have j:R=64:=g.o;clear W q h g p;go_wp2;go_ret;exact⟨by rw[j];rfl,N.o⟩
 |false=>
  obtain⟨s,b⟩:=p.o _ t.o;have aE:m.cell? ⟨B x,1,none⟩=some (.string (S e.cls.name)):=b.cell 1 rfl;have av:m.cell? ⟨B x,2,none⟩=some (.string (S e.cls.sup)):=b.cell 2 rfl;have az:m.cell? ⟨B x,3,none⟩=some (.slice lo e.cls.like.length Y):=b.cell 3 rfl;have aC:m.cell? ⟨B x,4,none⟩=some (.bool e.cls.itf):=b.cell 4 rfl;have ax:m.cell? ⟨B x,5,none⟩=some (.bool e.cls.abs):=b.cell 5 rfl;have aq:m.cell? ⟨B x,6,none⟩=some (.bool e.cls.fin):=b.cell 6 rfl;have ak:m.cell? ⟨B x,7,none⟩=some (.slice z e.cls.flds.length fc):=b.cell 7 rfl;have ay:m.cell? ⟨B x,8,none⟩=some (.slice V e.cls.mths.length U):=b.cell 8 rfl;clear b;go_wp2_with fail;with_reducible refine(W.o _ t.o).mono ?_
  rintro aN w2⟨rfl,H⟩;have v:=Hd (t.o.trans (H.mono t.o.size));have I:=Hd (N.o.trans (H.mono N.o.size));clear H s aE av az aC ax aq ak ay W;cases aw with
  |false=>
   have j:R=65:=g.o;clear q h g p;go_wp2;go_ret;exact⟨by rw[j];rfl,I.o⟩
  |true=>
   obtain⟨s,b⟩:=p.o _ v.o;clear b;go_wp2_with fail;with_reducible refine(q.o _ v.o).mono ?_
   rintro aG aP⟨rfl,J⟩;have ad:=Hd (v.o.trans (J.mono v.o.size));have G:=Hd (I.o.trans (J.mono I.o.size));clear J s q;cases aD with
   |true=>
    have j:R=66:=g.o;clear h g p;go_wp2;go_ret;exact⟨by rw[j];rfl,G.o⟩
   |false=>
    obtain⟨s,b⟩:=p.o _ ad.o;clear b;go_wp2_with fail;with_reducible refine(h.o _ ad.o).mono ?_
    rintro aH aK⟨rfl,aa⟩;have af:=Hd (G.o.trans (aa.mono G.o.size));clear aa s h p;cases aB with
    |true=>
     have j:R=67:=g.o;clear g;go_wp2;go_ret;exact⟨by rw[j];rfl,af.o⟩
    |false=>
     have j:R=0:=g.o;clear g;go_wp2;go_ret;exact⟨by rw[j];rfl,af.o⟩
structure GrF (gb gm gl:Nat) (ov0:Value) (W0:World) (ov:Value) (W:World):Prop where
 only:Only (fun k=>k=gb\/k=gm\/k=gl\/ov0.ownBlock=some k) W0 W
 came:ov.ownBlock=ov0.ownBlock\/∀g,ov.ownBlock=some g->W0.heap.size<=g
theorem GrF.refl (gb gm gl:Nat)(a:Value)(W:World):GrF gb gm gl a W a W:=⟨Yak _ _,.inl rfl⟩
theorem GrF.trans {gb gm gl:Nat}{b c d:Value}{f h W2:World}(j:GrF gb gm gl b f c h)(k:GrF gb gm gl c h d W2):GrF gb gm gl b f d W2:=by
 refine⟨j.only.then k.only (fun i m a=>?_),?_⟩
 ·rcases a with a|a|a|a
  ·exact .inl a
  ·exact .inr (.inl a)
  ·exact .inr (.inr (.inl a))
  ·rcases j.came with e|e
   ·exact .inr (.inr (.inr (e▸a)))
   ·have:=e i a;omega
 ·rcases k.came with e|e
  ·rw[e];exact j.came
  ·exact .inr (fun g l=>Yaj j.only.size (e g l))
def Zp3 (B:Nat->Nat)(c:World)(gb gm gl lo n:Nat)(a:Value)(d:World)(t:Grp×Nat)(e:Ending)(w':World):Prop:=
 e=.returned (.int .i64 (t.2:Nat))/\∃b f,Gr B c gb gm gl lo n t.1 b f w'/\GrF gb gm gl a d b w'
structure Mt (B:Nat->Nat) (w0:World) (gb gm gl lo n b2 b7:Nat) (ov0:Value) (W0:World) (t:Grp×Nat) (ov:Value) (us:List Value) (W:World):Prop where
 gr:Gr B w0 gb gm gl lo n t.1 ov us W
 box2:Box W b2 #[.pointer (some ⟨gb,0,none⟩)] 101
 box7:Box W b7 #[.int .i64 (t.2:Nat)] 3
 own2:ov.ownBlock≠some b2
 own7:ov.ownBlock≠some b7
 fr:GrF gb gm gl ov0 W0 ov W
structure MtS (lo b2 b7:Nat) (W0:World):Prop where
 l2:lo<=b2
 l7:lo<=b7
 n27:b2≠b7
 s2:W0.heap.size<=b2
 s7:W0.heap.size<=b7
theorem Mt.drew {B:Nat->Nat}{f:World}{gb gm gl lo n i g:Nat}{a:Value}{d:World}{t:Grp×Nat}{j:Value}{h:List Value}{W:World}(b:Mt B f gb gm gl lo n i g a d t j h W):Mt B f gb gm gl lo n i g a d t j h W.drew:=by
 have c:Below W.heap.size W W.drew:=Zab (Yab _ _);exact⟨b.gr.drew,b.box2.below c,b.box7.below c,b.own2,b.own7,⟨b.fr.only.drew,b.fr.came⟩⟩
theorem Mt.least {B:Nat->Nat}{j:World}{gb gm gl lo n f a:Nat}{d:Value}{h:World}{t:Grp×Nat}{l:Value}{m:List Value}{W:World}(b:Mt B j gb gm gl lo n f a d h t l m W)(q:GrS j.heap.size gb gm gl lo)(w:MtS lo f a h)(z:Nat) :
  Mt B j gb gm gl lo n f a d h (t.1,z) l m (W.setCell ⟨a,0,none⟩ (.int .i64 (z:Nat))):=by
 have c:Only (fun k=>k=a) W (W.setCell ⟨a,0,none⟩ (.int .i64 (z:Nat))):=(Yak (fun k=>k=a) W).setCell (p:=⟨a,0,none⟩) rfl _;have D:=q.ub;have F:=q.um;have G:=q.ul;have A:=w.l7;have H:=q.lb;have C:=w.s7;refine⟨⟨b.gr.box.keep c (fun e=>by omega),b.gr.met.keep c (fun e=>by omega),b.gr.loop.keep c (fun e=>by omega),?_,b.gr.bel.trans (c.below b.gr.bel.size (fun k (e:k=a)=>by omega)),Yaj b.gr.low c.size⟩,
  b.box2.keep c w.n27,b.box7.set 0 _,b.own2,b.own7,⟨b.fr.only.then c (fun i E (e:i=a)=>by omega),b.fr.came⟩⟩
 refine⟨c.row b.gr.opn.row (fun g r (e:g=a)=>b.own7 (e▸r)),b.gr.opn.own,b.gr.opn.len,b.gr.opn.size,fun k x v=>?_⟩;obtain⟨u,y,s⟩:=b.gr.opn.each k x v;exact⟨u,y,s⟩
def ParG (B:Nat->Nat)(b:World)(gb gm gl lo n g d:Nat)(a:Value)(c:World)(t:Grp×Nat)(e:Ending)(w':World):Prop:=e=.returned (.bool false)/\∃h f,Mt B b gb gm gl lo n g d a c t h f w'
theorem ZmN {A:Nat->Prop}{B:Nat->Nat}{ar al:Nat}{es:List Ent}{p:World}(Z:Tab A p ar al B es){gb gm gl lo c i:Nat}{w:Value}{I:World}(ab:GrS p.heap.size gb gm gl lo)(ad:MtS lo c i I)(m:Grp->Nat->Grp×Nat)(d:Nat)(E:d<es.length)
  (t:Grp×Nat)(l:Value)(X:List Value)(W:World)(T:GI es.length t.1)
  (ac:t.1.met.getD d 0=0->∀W,Gr B p gb gm gl lo es.length t.1 l X W->Calls prog 84 #[.pointer (some ⟨gb,0,none⟩),entV B d] W (Zp3 B p gb gm gl lo es.length l W (m t.1 d)))
  (q:Mt B p gb gm gl lo es.length c i w I t l X W) :
  Calls prog 139 (#[entV B d]++#[.pointer (some ⟨c,0,none⟩),.pointer (some ⟨i,0,none⟩)]) W (ParG B p gb gm gl lo es.length c i w I (ZbL m t d)):=by
 obtain⟨e,aa⟩:∃e,es[d]?=some e:=⟨_,Yaa E⟩
 obtain⟨n,J⟩:∃n,n=es.length:=⟨_,rfl⟩
 obtain⟨z,R⟩:∃z,z=t.1.met.getD d 0:=⟨_,rfl⟩
 have M:=Hd q;have ax:=Hd T;have x:=Hd ab;have H:=Hd ad;have u:Hid (∀v,Below W.heap.size W v->v.cell? ⟨c,0,none⟩=some (.pointer (some ⟨gb,0,none⟩))/\v.cell? ⟨gb,0,none⟩=some (.slice (some ⟨gm,0,none⟩) n n)/\v.cell? ⟨B d,0,none⟩=some (.int .i64 d)/\v.cell? ⟨gm,d,none⟩=some (.int .i64 z)):=Hd (fun v F=>by
  obtain⟨_,_,_,_,Q,_,_,_,_⟩:=(Z.below (q.gr.bel.trans (YbP F q.gr.bel.size))).ent d e aa;refine⟨(q.box2.below F).cell 0 rfl,by rw[J];exact(q.gr.box.below F).cell 0 rfl,Q.cell 0 rfl,?_⟩;rw[(q.gr.met.keep (Yae (S:=fun _=>False) F) id).at_ d E,Yav,getD_some (by rw[T.mlen];exact E),←R];rfl)
 have D:Below W.heap.size W W:=Yab _ _;obtain⟨G,Y,ag,ai⟩:=u.o W D;have ao:(0:Int)<=(d:Int):=by omega
 have ap:(d:Int)<(n:Int):=by rw[J];omega
 have K:=Hd R;have ae:=Hd ac;have au:=Hd J;clear Z aa q T ab ad R ac J E;by_cases P:z=0
 ·subst P;go_enter func139,ntmps139
  go_upto_region 1 with fail;first
  |(go_region_held (fun W=>W.cell? ⟨c,0,none⟩=some (.pointer (some ⟨gb,0,none⟩))/\W.cell? ⟨gb,0,none⟩=some (.slice (some ⟨gm,0,none⟩) n n)/\W.cell? ⟨B d,0,none⟩=some (.int .i64 d)/\W.cell? ⟨gm,d,none⟩=some (.int .i64 (0:Nat)))
    ((refine u.o _ ?_;(with_reducible repeat (first|exact Yab _ _|assumption|refine Zab ?_)))) (fail))
  |fail
  all_goals
   clear G Y ag ai;obtain⟨G,_,_,_⟩:=u.o _ (Zab D);have a:=Hd M.o.drew;clear u D M;have s:=Hd (ae.o K.o.symm _ a.o.gr);go_wp2_with fail;refine s.o.mono ?_;rintro av ak⟨rfl,C,N,O,f⟩;have k:∀b,lo<=b->b<W.drew.heap.size->l.ownBlock≠some b->¬(b=gb\/b=gm\/b=gl\/l.ownBlock=some b):=fun b Q _ U L=>by
    have aw:=x.o.ub;have ay:=x.o.um;have az:=x.o.ul;rcases L with L|L|L|L
    ·omega
    ·omega
    ·omega
    ·exact U L
   have j:∀b,b<W.drew.heap.size->l.ownBlock≠some b->C.ownBlock≠some b:=fun b Q U L=>by
    rcases f.came with e|e
    ·exact U (e▸L)
    ·have:=e b L;omega
   have l2:=a.o.box2.lt;have V:=a.o.box7.lt;have r:Mt B p gb gm gl lo es.length c i w I ((m t.1 d).1,t.2) C N ak:=
    ⟨O,a.o.box2.keep f.only (k c H.o.l2 l2 a.o.own2),a.o.box7.keep f.only (k i H.o.l7 V a.o.own7),j c l2 a.o.own2,j i V a.o.own7,a.o.fr.trans f⟩
   have aj:=r.box7.cell 0 rfl;have am:=r.box7.free 0;have af:=Hd r;clear r O f k j l2 V G s a ae;have g:ZbL m t d=((m t.1 d).1,min t.2 (m t.1 d).2):=by unfold ZbL;rw[Yay K.o.symm]
   have y:=Hd g;clear g;go_wp2;go_ret;have h:min ((t.2:Nat):Int) (((m t.1 d).2:Nat):Int)=((min t.2 (m t.1 d).2:Nat):Int):=by omega
   rw[h,y.o];exact⟨rfl,C,N,af.o.least x.o H.o _⟩
 ·have ah:¬(z:Int)=0:=by omega
  have aq:((z:Int)==0)=false:=Yah.2 ah;go_enter func139,ntmps139
  go_upto_region 1 with fail;first
  |(go_region_held (fun W=>W.cell? ⟨c,0,none⟩=some (.pointer (some ⟨gb,0,none⟩))/\W.cell? ⟨gb,0,none⟩=some (.slice (some ⟨gm,0,none⟩) n n)/\W.cell? ⟨B d,0,none⟩=some (.int .i64 d)/\W.cell? ⟨gm,d,none⟩=some (.int .i64 z))
    ((refine u.o _ ?_;(with_reducible repeat (first|exact Yab _ _|assumption|refine Zab ?_)))) (fail))
  |fail
  all_goals
   clear G Y ag ai u D;have a:=Hd M.o.drew;have aj:=a.o.box7.cell 0 rfl;have am:=a.o.box7.free 0;have g:ZbL m t d=(t.1,min t.2 z):=by unfold ZbL;rw[Yar (by rw[←K.o];exact P),←K.o]
   have y:=Hd g;clear g M;go_wp2;go_ret;have h:min ((t.2:Nat):Int) ((z:Nat):Int)=((min t.2 z:Nat):Int):=by omega
   rw[h,y.o];exact⟨rfl,l,X,a.o.least x.o H.o _⟩
