/- laws -/
import Derived.Test.YtegljjbclladdaaGreatDoorK33
set_option maxRecDepth 100000
set_option maxHeartbeats 16000000
namespace Go.Proofs.YtegljjbclladdaaGreatDoor
open Go.RowKit Tryz
theorem Znc {A:Nat->Prop}(c:Cls)(v:Value)(w:World)(aA:ClsR A w c v)(p:c.Fit)(ao:c.like.length<=32)(av:c.flds.length<=32)(ar:c.mths.length<=32) :
  Calls prog 77 #[v] w (Said c.names w):=by
 obtain⟨aP,aU,aN,rfl,T,ah,ag⟩:=aA;obtain⟨lo,a,rfl⟩:=T.shape;obtain⟨g,fc,rfl⟩:=ah.shape;obtain⟨h,d,rfl⟩:=ag.shape;have q:Below w.heap.size w (w.alloc (.cells #[.string (S c.name),.string (S c.sup),.slice lo c.like.length a,.bool c.itf,.bool c.abs,.bool c.fin,.slice g c.flds.length fc,.slice h c.mths.length d] 70)):=(Yab _ w).alloc (Yad _) _;have z:=Hd q;have m:=Hd (Box.new w #[.string (S c.name),.string (S c.sup),.slice lo c.like.length a,.bool c.itf,.bool c.abs,.bool c.fin,.slice g c.flds.length fc,.slice h c.mths.length d] 70);have ai:Hid (∀sv W,Src 1 (SlR 1 StrR) Anyw W sv [[c.sup],c.like]->Calls prog 119 #[sv] W (ZrF 9 ((c.sup::c.like).map strV) W)):=Hd (fun sv W aj=>by
  have:=ZlH [[c.sup],c.like] sv W aj (by simp;omega) (by simp);simpa using this)
 have al:=Hd (StrR.st.any T);have ab:Hid (∀W,Below (w.alloc (.cells #[.string (S c.name),.string (S c.sup),.slice lo c.like.length a,.bool c.itf,.bool c.abs,.bool c.fin,.slice g c.flds.length fc,.slice h c.mths.length d] 70)).heap.size (w.alloc (.cells #[.string (S c.name),.string (S c.sup),.slice lo c.like.length a,.bool c.itf,.bool c.abs,.bool c.fin,.slice g c.flds.length fc,.slice h c.mths.length d] 70)) W->Calls prog 120 #[.string (S c.name)] W (Said (Zah c.name) W)):=Hd (fun W G=>
  ZbV c.name W p.name)
 have ac:Hid (∀sv W,Src 1 StrR Anyw W sv (c.sup::c.like)->Calls prog 121 #[sv,.func (.func 120) #[] #[]] W (Said ((c.sup::c.like).all Zah) W)):=Hd (fun sv W aj=>
  Znr (A:=Anyw) 120 #[] Zah (c.sup::c.like) _ _ (Zac func120 (by kernel_rfl) rfl) aj (fun k x u w' hx _ y=>by
   obtain rfl:=y;exact ZbV x w' (by rcases Yai.1 (Yaf hx)with e|e;(rw[e];exact p.sup);exact p.like x e)) (by rw[YaI];omega))
 have ae:Hid (∀sv W,Src 1 StrR Anyw W sv (c.sup::c.like)->Calls prog 39 #[sv,.string (S c.name)] W (Said ((c.sup::c.like).any fun ap=>ap==c.name) W)):=Hd (fun sv W aj=>
  Zff (c.sup::c.like) c.name sv W aj (by rw[YaI];omega))
 have U:Hid (∀W,Below (w.alloc (.cells #[.string (S c.name),.string (S c.sup),.slice lo c.like.length a,.bool c.itf,.bool c.abs,.bool c.fin,.slice g c.flds.length fc,.slice h c.mths.length d] 70)).heap.size (w.alloc (.cells #[.string (S c.name),.string (S c.sup),.slice lo c.like.length a,.bool c.itf,.bool c.abs,.bool c.fin,.slice g c.flds.length fc,.slice h c.mths.length d] 70)) W->Calls prog 122 #[.slice lo c.like.length a,.func (.func 123) #[] #[]] W (Said (ZbM c.like) W)):=Hd (fun W G=>
  by
   have aK:=Zqr (A:=A) 123 #[] id c.like _ _ (Zac func123 (by kernel_rfl) rfl) (StrR.st.below (StrR.st.below T q) G) (fun x u w' _ y=>Zss x u w' y) (by omega);rw[List.map_id]at aK;exact aK)
 have aa:Hid (∀W,Below (w.alloc (.cells #[.string (S c.name),.string (S c.sup),.slice lo c.like.length a,.bool c.itf,.bool c.abs,.bool c.fin,.slice g c.flds.length fc,.slice h c.mths.length d] 70)).heap.size (w.alloc (.cells #[.string (S c.name),.string (S c.sup),.slice lo c.like.length a,.bool c.itf,.bool c.abs,.bool c.fin,.slice g c.flds.length fc,.slice h c.mths.length d] 70)) W->Calls prog 124 #[.slice g c.flds.length fc,.func (.func 125) #[] #[]] W (Said (ZbM (c.flds.map Fld.name)) W)):=Hd (fun W G=>
  Zqp (A:=A) 125 #[] Fld.name c.flds _ _ (Zac func125 (by kernel_rfl) rfl) (FldR.st.below (FldR.st.below ah q) G) (fun x u w' _ y=>Zst x u w' y) (by omega))
 have Y:Hid (∀W,Below (w.alloc (.cells #[.string (S c.name),.string (S c.sup),.slice lo c.like.length a,.bool c.itf,.bool c.abs,.bool c.fin,.slice g c.flds.length fc,.slice h c.mths.length d] 70)).heap.size (w.alloc (.cells #[.string (S c.name),.string (S c.sup),.slice lo c.like.length a,.bool c.itf,.bool c.abs,.bool c.fin,.slice g c.flds.length fc,.slice h c.mths.length d] 70)) W->Calls prog 126 #[.slice h c.mths.length d,.func (.func 127) #[] #[]] W (Said (ZbM (c.mths.map Mth.name)) W)):=Hd (fun W G=>
  Zqq (A:=A) 127 #[] Mth.name c.mths _ _ (Zac func127 (by kernel_rfl) rfl) (MthR.st.below (MthR.st.below ag q) G) (fun x u w' _ y=>Zsu x u w' y) (by omega))
 unfold Cls.names;clear T ah ag p q ao av ar;generalize Zah c.name=az at ab⊢;generalize (c.sup::c.like).all Zah=aD at ac⊢;generalize ((c.sup::c.like).any fun ap=>ap==c.name)=aH at ae⊢;generalize ZbM c.like=aG at U⊢;generalize ZbM (c.flds.map Fld.name)=aE at aa⊢;generalize ZbM (c.mths.map Mth.name)=aO at Y⊢;go_enter func77,ntmps77
 go_wp2_with fail;have P:Below (w.alloc (.cells #[.string (S c.name),.string (S c.sup),.slice lo c.like.length a,.bool c.itf,.bool c.abs,.bool c.fin,.slice g c.flds.length fc,.slice h c.mths.length d] 70)).heap.size (w.alloc (.cells #[.string (S c.name),.string (S c.sup),.slice lo c.like.length a,.bool c.itf,.bool c.abs,.bool c.fin,.slice g c.flds.length fc,.slice h c.mths.length d] 70)) ((w.alloc (.cells #[.string (S c.name),.string (S c.sup),.slice lo c.like.length a,.bool c.itf,.bool c.abs,.bool c.fin,.slice g c.flds.length fc,.slice h c.mths.length d] 70)).alloc (.cells #[.string (S c.sup)] 9)):=(Yab _ _).alloc (Yad _) _;have t:=Box.new (w.alloc (.cells #[.string (S c.name),.string (S c.sup),.slice lo c.like.length a,.bool c.itf,.bool c.abs,.bool c.fin,.slice g c.flds.length fc,.slice h c.mths.length d] 70)) #[.string (S c.sup)] 9;have D:Below (w.alloc (.cells #[.string (S c.name),.string (S c.sup),.slice lo c.like.length a,.bool c.itf,.bool c.abs,.bool c.fin,.slice g c.flds.length fc,.slice h c.mths.length d] 70)).heap.size (w.alloc (.cells #[.string (S c.name),.string (S c.sup),.slice lo c.like.length a,.bool c.itf,.bool c.abs,.bool c.fin,.slice g c.flds.length fc,.slice h c.mths.length d] 70)) (((w.alloc (.cells #[.string (S c.name),.string (S c.sup),.slice lo c.like.length a,.bool c.itf,.bool c.abs,.bool c.fin,.slice g c.flds.length fc,.slice h c.mths.length d] 70)).alloc (.cells #[.string (S c.sup)] 9)).alloc (.cells #[.slice (some ⟨w.heap.size+1,0,none⟩) 1 1,.slice lo c.like.length a] 22)):=P.alloc P.size _;have j:=t.below (w':=((w.alloc (.cells #[.string (S c.name),.string (S c.sup),.slice lo c.like.length a,.bool c.itf,.bool c.abs,.bool c.fin,.slice g c.flds.length fc,.slice h c.mths.length d] 70)).alloc (.cells #[.string (S c.sup)] 9)).alloc (.cells #[.slice (some ⟨w.heap.size+1,0,none⟩) 1 1,.slice lo c.like.length a] 22)) ((Yab _ _).alloc (Yad _) _);have l:=Box.new ((w.alloc (.cells #[.string (S c.name),.string (S c.sup),.slice lo c.like.length a,.bool c.itf,.bool c.abs,.bool c.fin,.slice g c.flds.length fc,.slice h c.mths.length d] 70)).alloc (.cells #[.string (S c.sup)] 9)) #[.slice (some ⟨w.heap.size+1,0,none⟩) 1 1,.slice lo c.like.length a] 22;have Q:=StrR.st.below al.o (z.o.trans (D.mono z.o.size));generalize aq:((w.alloc (.cells #[.string (S c.name),.string (S c.sup),.slice lo c.like.length a,.bool c.itf,.bool c.abs,.bool c.fin,.slice g c.flds.length fc,.slice h c.mths.length d] 70)).alloc (.cells #[.string (S c.sup)] 9)).alloc (.cells #[.slice (some ⟨w.heap.size+1,0,none⟩) 1 1,.slice lo c.like.length a] 22)=W2 at *;simp only[World.size_alloc]at t j l;refine(ai.o _ W2 ?src).mono ?_
 case src=>
  refine .inr ⟨w.heap.size+1+1,0,2,rfl,⟨trivial,l.lt,Yad _,by decide⟩,fun k x hx=>?_⟩
  match k,hx with
  |0,hx=>
   obtain rfl:[c.sup]=x:=by simpa using hx
   refine⟨.slice (some ⟨w.heap.size+1,0,none⟩) 1 1,.inr ⟨w.heap.size+1,0,1,rfl,⟨trivial,j.lt,Yad _,by decide⟩,fun i ap hy=>?_⟩,rfl,fun ak u r=>?_⟩
   ·match i,hy with
    |0,hy=>
     obtain rfl:c.sup=ap:=by simpa using hy
     refine⟨_,rfl,rfl,fun ak u r=>?_⟩;have X:=Zc7 (n:=1) rfl r;obtain rfl:ak=0:=by omega
     obtain rfl:strV c.sup=u:=by simpa[strV,Value.cells]using r
     exact j.cell 0 rfl
    |i+1,hy=>simp at hy
   ·have X:=Zc7 (n:=1) rfl r;obtain rfl:ak=0:=by omega
    obtain rfl:Value.slice (some ⟨w.heap.size+1,0,none⟩) 1 1=u:=by simpa[Value.cells]using r
    exact l.cell 0 rfl
  |1,hx=>
   obtain rfl:c.like=x:=by simpa using hx
   refine⟨.slice lo c.like.length a,Q,rfl,fun ak u r=>?_⟩;have X:=Zc7 (n:=1) rfl r;obtain rfl:ak=0:=by omega
   obtain rfl:Value.slice lo c.like.length a=u:=by simpa[Value.cells]using r
   exact l.cell 1 rfl
  |k+2,hx=>simp at hx
 rintro e aF⟨aT,rfl,s,_,ad⟩;obtain⟨aI,aW,aX,ax⟩:=Zet s;have V:=Zm0 (f:=strV) (fun _=>rfl) s;subst ax;have aw:=Hd V;have J:Below (w.alloc (.cells #[.string (S c.name),.string (S c.sup),.slice lo c.like.length a,.bool c.itf,.bool c.abs,.bool c.fin,.slice g c.flds.length fc,.slice h c.mths.length d] 70)).heap.size (w.alloc (.cells #[.string (S c.name),.string (S c.sup),.slice lo c.like.length a,.bool c.itf,.bool c.abs,.bool c.fin,.slice g c.flds.length fc,.slice h c.mths.length d] 70)) aF:=D.trans (ad.mono D.size);have F:=Hd J;have Z:=Hd (z.o.trans (J.mono z.o.size));clear V s ad J D P t j l Q aq;have N:=(m.o.below F.o).cell 0 rfl;go_wp2_with fail;refine(ab.o _ F.o).mono ?_;rintro e aQ⟨rfl,b⟩;have I:=Hd (F.o.trans (b.mono F.o.size));have K:=Hd (Z.o.trans (b.mono Z.o.size));have af:=Hd (StrR.st.below aw.o b);clear b N;cases az
 case false=>
  go_wp2;go_ret;exact⟨rfl,K.o⟩
 have N:=(m.o.below I.o).cell 0 rfl;go_wp2_with fail;refine(ac.o _ _ af.o).mono ?_;rintro e aS⟨rfl,b⟩;have M:=Hd (I.o.trans (b.mono I.o.size));have H:=Hd (K.o.trans (b.mono K.o.size));have au:=Hd (StrR.st.below af.o b);clear b N;cases aD
 case false=>
  go_wp2;go_ret;exact⟨rfl,H.o⟩
 have N:=(m.o.below M.o).cell 0 rfl;go_wp2_with fail;refine(ae.o _ _ au.o).mono ?_;rintro e aR⟨rfl,b⟩;have C:=Hd (M.o.trans (b.mono M.o.size));have R:=Hd (H.o.trans (b.mono H.o.size));clear b N;cases aH
 case true=>
  go_wp2;go_ret;exact⟨rfl,R.o⟩
 have aC:=(m.o.below C.o).cell 2 rfl;go_wp2_with fail;refine(U.o _ C.o).mono ?_;rintro e aV⟨rfl,b⟩;have E:=Hd (C.o.trans (b.mono C.o.size));have O:=Hd (R.o.trans (b.mono R.o.size));clear b aC;cases aG
 case false=>
  go_wp2;go_ret;exact⟨rfl,O.o⟩
 have ay:=(m.o.below E.o).cell 6 rfl;go_wp2_with fail;refine(aa.o _ E.o).mono ?_;rintro e aM⟨rfl,b⟩;have B:=Hd (E.o.trans (b.mono E.o.size));have L:=Hd (O.o.trans (b.mono O.o.size));clear b ay;cases aE
 case false=>
  go_wp2;go_ret;exact⟨rfl,L.o⟩
 have aB:=(m.o.below B.o).cell 7 rfl;go_wp2_with fail;refine(Y.o _ B.o).mono ?_;rintro e aL⟨rfl,b⟩;have aJ:=Hd (B.o.trans (b.mono B.o.size));have am:=Hd (L.o.trans (b.mono L.o.size));clear b aB;go_wp2;go_ret;exact⟨rfl,am.o⟩
theorem Zlv {A:Nat->Prop}(c:Cls)(v:Value)(w:World)(af:ClsR A w c v)(X:CT w)(n:c.Fit) :
  Calls prog 22 #[v] w fun e w'=>e=.returned (.int .i64 (c.e:Nat))/\Below w.heap.size w w':=by
 have q:=af;obtain⟨au,ar,ap,rfl,ae,G,I⟩:=af;obtain⟨lo,l,rfl⟩:=ae.shape;obtain⟨h,fc,rfl⟩:=G.shape;obtain⟨j,i,rfl⟩:=I.shape;have m:Below w.heap.size w (w.alloc (.cells #[.string (S c.name),.string (S c.sup),.slice lo c.like.length l,.bool c.itf,.bool c.abs,.bool c.fin,.slice h c.flds.length fc,.slice j c.mths.length i] 70)):=(Yab _ w).alloc (Yad _) _;have y:=Hd m;have a:=Hd (Box.new w #[.string (S c.name),.string (S c.sup),.slice lo c.like.length l,.bool c.itf,.bool c.abs,.bool c.fin,.slice h c.flds.length fc,.slice j c.mths.length i] 70);have s:Hid (∀W,Below (w.alloc (.cells #[.string (S c.name),.string (S c.sup),.slice lo c.like.length l,.bool c.itf,.bool c.abs,.bool c.fin,.slice h c.flds.length fc,.slice j c.mths.length i] 70)).heap.size (w.alloc (.cells #[.string (S c.name),.string (S c.sup),.slice lo c.like.length l,.bool c.itf,.bool c.abs,.bool c.fin,.slice h c.flds.length fc,.slice j c.mths.length i] 70)) W->Calls prog 76 #[.agg #[.string (S c.name),.string (S c.sup),.slice lo c.like.length l,.bool c.itf,.bool c.abs,.bool c.fin,.slice h c.flds.length fc,.slice j c.mths.length i]] W (Said (c.many) W)):=Hd (fun W p=>ZqR (A:=A) c _ W (ClsR.st.keep (ClsR.st.keep q (Yae (S:=fun _=>False) m) (fun _ _=>id)) (Yae (S:=fun _=>False) p) (fun _ _=>id)));have K:c.many=true\/(c.many=false/\c.like.length<=32/\c.flds.length<=32/\c.mths.length<=32):=by
  cases am:c.many
  ·right;refine⟨rfl,?_⟩;unfold Cls.many at am;simp only[Ybv,decide_eq_false_iff_not]at am;omega
  ·left;rfl
 rcases K with f|⟨f,U,L,C⟩
 ·have H:Hid (c.e=51):=Hd (by unfold Cls.e;rw[Yay f]);rw[f]at s;rw[H.o];clear ae G I q X n m f;go_enter func22,ntmps22
  go_wp2_with fail;refine(s.o _ (Yab _ _)).mono ?_;rintro e ai⟨rfl,P⟩;have b:=Hd (y.o.trans (P.mono y.o.size));clear P;go_wp2;go_ret;exact⟨rfl,b.o⟩
 have H:Hid (c.e=if c.fine then 0 else 50):=Hd (by unfold Cls.e;rw[f];rfl);rw[H.o];rw[f]at s;have M:Hid (∀W,Below (w.alloc (.cells #[.string (S c.name),.string (S c.sup),.slice lo c.like.length l,.bool c.itf,.bool c.abs,.bool c.fin,.slice h c.flds.length fc,.slice j c.mths.length i] 70)).heap.size (w.alloc (.cells #[.string (S c.name),.string (S c.sup),.slice lo c.like.length l,.bool c.itf,.bool c.abs,.bool c.fin,.slice h c.flds.length fc,.slice j c.mths.length i] 70)) W->Calls prog 77 #[.agg #[.string (S c.name),.string (S c.sup),.slice lo c.like.length l,.bool c.itf,.bool c.abs,.bool c.fin,.slice h c.flds.length fc,.slice j c.mths.length i]] W (Said (c.names) W)):=Hd (fun W p=>Znc (A:=A) c _ W (ClsR.st.keep (ClsR.st.keep q (Yae (S:=fun _=>False) m) (fun _ _=>id)) (Yae (S:=fun _=>False) p) (fun _ _=>id)) n U L C);have T:Hid (∀W,Below (w.alloc (.cells #[.string (S c.name),.string (S c.sup),.slice lo c.like.length l,.bool c.itf,.bool c.abs,.bool c.fin,.slice h c.flds.length fc,.slice j c.mths.length i] 70)).heap.size (w.alloc (.cells #[.string (S c.name),.string (S c.sup),.slice lo c.like.length l,.bool c.itf,.bool c.abs,.bool c.fin,.slice h c.flds.length fc,.slice j c.mths.length i] 70)) W->Calls prog 78 #[.agg #[.string (S c.name),.string (S c.sup),.slice lo c.like.length l,.bool c.itf,.bool c.abs,.bool c.fin,.slice h c.flds.length fc,.slice j c.mths.length i]] W (Said (c.sort) W)):=Hd (fun W p=>Zp1 (A:=A) c _ W (ClsR.st.keep (ClsR.st.keep q (Yae (S:=fun _=>False) m) (fun _ _=>id)) (Yae (S:=fun _=>False) p) (fun _ _=>id)) C);have N:Hid (∀W,Below (w.alloc (.cells #[.string (S c.name),.string (S c.sup),.slice lo c.like.length l,.bool c.itf,.bool c.abs,.bool c.fin,.slice h c.flds.length fc,.slice j c.mths.length i] 70)).heap.size (w.alloc (.cells #[.string (S c.name),.string (S c.sup),.slice lo c.like.length l,.bool c.itf,.bool c.abs,.bool c.fin,.slice h c.flds.length fc,.slice j c.mths.length i] 70)) W->Calls prog 79 #[.slice h c.flds.length fc,.func (.func 80) #[] #[]] W (Said (c.flds.all Fld.ok) W)):=Hd (fun W p=>
  ZrY (A:=A) 80 #[] Fld.ok c.flds _ _ (Zac func80 (by kernel_rfl) rfl) (FldR.st.below (FldR.st.below G m) p) (fun k x u w' J _ Z=>by
   obtain rfl:=Z;exact Zm8 x w' (n.flds x (Yaf J)).1 (n.flds x (Yaf J)).2) (by omega))
 have Q:Hid (∀W,Below (w.alloc (.cells #[.string (S c.name),.string (S c.sup),.slice lo c.like.length l,.bool c.itf,.bool c.abs,.bool c.fin,.slice h c.flds.length fc,.slice j c.mths.length i] 70)).heap.size (w.alloc (.cells #[.string (S c.name),.string (S c.sup),.slice lo c.like.length l,.bool c.itf,.bool c.abs,.bool c.fin,.slice h c.flds.length fc,.slice j c.mths.length i] 70)) W->Calls prog 81 #[.slice j c.mths.length i,.func (.func 82) #[] #[]] W (Said (c.mths.all Mth.ok) W)):=Hd (fun W p=>
  Znq (A:=A) 82 #[] Mth.ok c.mths _ _ (Zac func82 (by kernel_rfl) rfl) (MthR.st.below (MthR.st.below I m) p) (fun k x u w' J ag Z=>
   ZkE x u w' Z (((X.keep m).keep p).keep ag) (n.mths x (Yaf J))) (by omega))
 unfold Cls.fine;clear ae G I q X n m f U L C H;generalize c.names=ah at M⊢;generalize c.sort=ak at T⊢;generalize c.flds.all Fld.ok=al at N⊢;generalize c.mths.all Mth.ok=aj at Q⊢;go_enter func22,ntmps22
 go_wp2_with fail;refine(s.o _ (Yab _ _)).mono ?_;rintro e ai⟨rfl,d⟩;have b:=Hd d;have O:=Hd (y.o.trans (d.mono y.o.size));clear d;have V:=(a.o.below b.o).cell 0 rfl;have ad:=(a.o.below b.o).cell 1 rfl;have aa:=(a.o.below b.o).cell 2 rfl;have Y:=(a.o.below b.o).cell 3 rfl;have ac:=(a.o.below b.o).cell 4 rfl;have ab:=(a.o.below b.o).cell 5 rfl;have z:=(a.o.below b.o).cell 6 rfl;have D:=(a.o.below b.o).cell 7 rfl;go_wp2_with fail;refine(M.o _ b.o).mono ?_;rintro e w2⟨rfl,d⟩;have g:=Hd (b.o.trans (d.mono b.o.size));have B:=Hd (O.o.trans (d.mono O.o.size));clear d V ad aa Y ac ab z D;cases ah
 case false=>
  go_wp2;go_ret;exact⟨rfl,B.o⟩
 have V:=(a.o.below g.o).cell 0 rfl;have ad:=(a.o.below g.o).cell 1 rfl;have aa:=(a.o.below g.o).cell 2 rfl;have Y:=(a.o.below g.o).cell 3 rfl;have ac:=(a.o.below g.o).cell 4 rfl;have ab:=(a.o.below g.o).cell 5 rfl;have z:=(a.o.below g.o).cell 6 rfl;have D:=(a.o.below g.o).cell 7 rfl;go_wp2_with fail;refine(T.o _ g.o).mono ?_;rintro e aq⟨rfl,d⟩;have t:=Hd (g.o.trans (d.mono g.o.size));have F:=Hd (B.o.trans (d.mono B.o.size));clear d V ad aa Y ac ab z D;cases ak
 case false=>
  go_wp2;go_ret;exact⟨rfl,F.o⟩
 have z:=(a.o.below t.o).cell 6 rfl;go_wp2_with fail;refine(N.o _ t.o).mono ?_;rintro e av⟨rfl,d⟩;have r:=Hd (t.o.trans (d.mono t.o.size));have E:=Hd (F.o.trans (d.mono F.o.size));clear d z;cases al
 case false=>
  go_wp2;go_ret;exact⟨rfl,E.o⟩
 have D:=(a.o.below r.o).cell 7 rfl;go_wp2_with fail;refine(Q.o _ r.o).mono ?_;rintro e aw⟨rfl,d⟩;have ao:=Hd (r.o.trans (d.mono r.o.size));have R:=Hd (E.o.trans (d.mono E.o.size));clear d D;cases aj
 case false=>
  go_wp2;go_ret;exact⟨rfl,R.o⟩
 go_wp2;go_ret;exact⟨rfl,R.o⟩
