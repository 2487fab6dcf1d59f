/- laws -/
import Derived.Test.YtegljjbclladdaaGreatDoorK32
set_option maxRecDepth 100000
set_option maxHeartbeats 16000000
namespace Go.Proofs.YtegljjbclladdaaGreatDoor
open Go.RowKit Tryz
theorem Zon:(prog.info? 3).map (fun i=>(i.zero,i.size,i.bytes))=some (some (.int .i64 0),1,8):=by kernel_rfl
def StG (B:Nat->Nat)(w:World)(n gm gl gb:Nat)(a:World):Prop:=GrS w.heap.size gb gm gl (gb+1)/\Gr B w gb gm gl (gb+1) n ⟨List.replicate n 0,0,[],List.replicate n false⟩ (.slice none 0 0) [] a
def Zfn (es:List Ent)(n k:Nat):Grp:=((List.range n).take k).foldl (fun s c=>if s.met.getD c 0=0 then(ZaW es n s c).1 else s) ⟨List.replicate n 0,0,[],List.replicate n false⟩
def ZrR (es:List Ent)(w:World)(e:Ending)(w':World):Prop:=∃g,e=.returned (.slice (some ⟨g,0,none⟩) es.length es.length)/\MRow w' g es.length 4 ((ZaI es es.length).loop.map .bool)/\w.heap.size<=g/\Below w.heap.size w w'
theorem Zl5 {A:Nat->Prop}{B:Nat->Nat}{a8 aY:Nat}{es:List Ent}(w:World)(aw:Tab A w a8 aY B es)(m:es.length<=1048576)(al:∀(i:Nat) (e:Ent),es[i]?=some e->e.lk.length<=9223372036854775807)
  (u:∀c,∀d∈parE es c,d<es.length)(g:Nat)(Y:MRow w g es.length 77 ((List.range es.length).map (entV B))) :
  Calls prog 27 #[.slice (some ⟨g,0,none⟩) es.length es.length] w (ZrR es w):=by
 obtain⟨aM,ak,j,Z,aj⟩:=info_parts Zon;obtain⟨aT,ah,au,aq,ar⟩:=info_parts Zf2;obtain⟨n,E⟩:∃n,n=es.length:=⟨_,rfl⟩
 have U:=fun W=>Zcq (P:=prog) 87 3 aM (.int .i64 0) underlying87 ak j Z rfl n (by rw[aj];omega) (by unfold maxLen;omega) W;have J:=fun W=>Zcq (P:=prog) 74 4 aT (.bool false) underlying74 ah au aq rfl n (by rw[ar];omega) (by unfold maxLen;omega) W;obtain⟨ax,N⟩:=Classical.skolem.1 U;obtain⟨ae,T⟩:=Classical.skolem.1 J;have aR:=fun W=>(N W).1;have a2:=fun W=>(T W).1;have H:=Hd N;have Q:=Hd T;have t:=Hd E;rw[←E];have L:=Hd Y;rw[←E]at L;have aS:=Hd aw;have am:=Hd (fun gb gm gl lo O=>Zk1 (gb:=gb) (gm:=gm) (gl:=gl) (lo:=lo) aw O m al u es.length);have aA:=Hd u;have av:=Hd m;have a6:n<=1048576:=by rw[E];exact m
 unfold ZrR;rw[←E];clear U J N T ak j Z aj ah au aq ar E Y aw m al u;go_enter func27,ntmps27
 go_upto_region 1 with fail;have M:Hid (∀gm gl b,w.heap.size<=gm->w.heap.size<=gl->gm≠gl->gm<b.heap.size->gl<b.heap.size->MRow b gm n 3 (List.replicate n (.int .i64 0))->MRow b gl n 4 (List.replicate n (.bool false))->Below w.heap.size w b->
   StG B w n gm gl b.heap.size (b.alloc (.cells #[.slice (some ⟨gm,0,none⟩) n n,.int .i64 0,.slice none 0 0,.slice (some ⟨gl,0,none⟩) n n] 103))):=Hd (fun gm gl b h a0 aO bd a9 aX aQ G=>by
  have I:Below b.heap.size b (b.alloc (.cells #[.slice (some ⟨gm,0,none⟩) n n,.int .i64 0,.slice none 0 0,.slice (some ⟨gl,0,none⟩) n n] 103)):=Zaa (Yab _ _) _;refine⟨⟨G.size,h,a0,by omega,by omega,by omega,by omega,by omega,aO⟩,⟨Box.new b _ _,?_,?_,TRow.nil _ _,G.trans (I.mono G.size),by simp⟩⟩
  ·rw[Ycm];exact aX.keep (Yae (S:=fun _=>False) I) id
  ·rw[Ycm];exact aQ.keep (Yae (S:=fun _=>False) I) id)
 go_cut [3] (fun a1 aW=>∃gb gm gl,a1=.pointer (some ⟨gb,0,none⟩)/\StG B w n gm gl gb aW)
 case first=>
  (go_region_held3 (fun _=>True) (trivial) (fail))
  ·go_wp2_with fail;go_meet
   obtain⟨_,aa,R⟩:=H.o w.drew;obtain⟨_,X,v⟩:=Q.o (ax w.drew);have F:=aa.lt;have K:=X.lt;refine⟨_,_,_,rfl,M.o w.heap.size (ax w.drew).heap.size _ (Yad _) R.size (by show w.drew.heap.size≠_;omega) (Ya7 F v.size) K (aa.keep (Yae (S:=fun _=>False) v) id) X ?_⟩;have h:Below w.heap.size w (ax w.drew):=(Zab (Yab _ w)).trans R;exact h.trans (v.mono h.size)
  ·go_wp2_with fail;go_meet
   obtain⟨_,aa,R⟩:=Q.o w.drew;obtain⟨_,X,v⟩:=H.o (ae w.drew);have F:=aa.lt;have K:=X.lt;refine⟨_,_,_,rfl,M.o (ae w.drew).heap.size w.heap.size _ R.size (Yad _) (fun e=>by have aL:w.drew.heap.size<(ae w.drew).heap.size:=F;rw[e]at aL;exact Nat.lt_irrefl _ aL) K (Ya7 F v.size) X (aa.keep (Yae (S:=fun _=>False) v) id) ?_⟩;have h:Below w.heap.size w (ae w.drew):=(Zab (Yab _ w)).trans R;exact h.trans (v.mono h.size)
 case rest=>
  obtain⟨gb,gm,gl,rfl,O,aH⟩:=hcut;have aZ:=Hd O;have aU:=Hd aH;have aE:=Hd (am.o gb gm gl _ O);clear O aH aR a2 H Q M am;go_wp2;go_loopw [16] (fun V wr=>∃(k:Nat) (af:Value) (ac:List Value),k<=n/\V=.int .i64 k/\GI es.length (Zfn es n k)/\Gr B w gb gm gl (gb+1) n (Zfn es n k) af ac wr) (fun V _=>n-(intOf V).toNat)
  case atStart=>
   have s:Zfn es n 0=⟨List.replicate n 0,0,[],List.replicate n false⟩:=rfl;refine⟨0,_,_,Yao _,rfl,?_,aU.o⟩;rw[s,←t.o];have F:=ZdY (List.replicate n 0);rw[Ybm]at F;refine⟨by simp,fun c aV=>by(cases aV),?_,?_,fun z s=>?_⟩
   ·show 0+Za7 (List.replicate n 0)<=n;omega
   ·show 0+Za7 (List.replicate n 0)<=n;omega
   ·rw[(Ybt.1 s).2];exact Yao _
  case round=>
   obtain⟨k,af,ac,bc,rfl,x,a⟩:=hrel;have q:=Hd x;have l:=Hd a;by_cases p:k<n
   ·have aI:wr.cell? ⟨g,k,none⟩=some (entV B k):=by
     rw[(L.o.keep (Yae (S:=fun _=>False) a.bel) id).at_ k p,Yav,Ybl p];rfl
    have D:k<es.length:=by rw[←t.o];exact p
    have aC:wr.cell? ⟨gb,0,none⟩=some (.slice (some ⟨gm,0,none⟩) n n):=a.box.cell 0 rfl;have az:wr.cell? ⟨B k,0,none⟩=some (.int .i64 k):=by
     obtain⟨_,_,_,_,G,_,_,_,_⟩:=(aS.o.below a.bel).ent k es[k] (Yaa D);exact G.cell 0 rfl
    obtain⟨z,s⟩:∃z,z=(Zfn es n k).met.getD k 0:=⟨_,rfl⟩
    have ad:wr.cell? ⟨gm,k,none⟩=some (.int .i64 z):=by
     rw[a.met.at_ k p,Yav,getD_some (by rw[x.mlen];exact D),←s];rfl
    have a5:(0:Int)<=(k:Int):=by omega
    have a3:(k:Int)<(n:Int):=by omega
    have ai:(List.range n)[k]?=some k:=Ybl p;have C:Zfn es n (k+1)=if z=0 then(ZaW es n (Zfn es n k) k).1 else Zfn es n k:=by
     unfold Zfn;rw[Zds _ ai,s];rfl
    have f:=Hd C;have ay:=Hd s;have ap:=Hd D;have ab:Hid (∀b,Below wr.heap.size wr b->b.cell? ⟨gb,0,none⟩=some (.slice (some ⟨gm,0,none⟩) n n)/\b.cell? ⟨B k,0,none⟩=some (.int .i64 k)/\b.cell? ⟨gm,k,none⟩=some (.int .i64 z)):=Hd (fun b aN=>by
     have aB:=Yae (S:=fun _=>False) aN;exact⟨aB.cell aC id,aB.cell az id,aB.cell ad id⟩)
    have aG:Below wr.heap.size wr wr:=Yab _ _;clear x a ai C s D;by_cases j:z=0
    ·subst j;go_upto_region 5 with fail;first
     |(go_region_held (fun b=>b.cell? ⟨gb,0,none⟩=some (.slice (some ⟨gm,0,none⟩) n n)/\b.cell? ⟨B k,0,none⟩=some (.int .i64 k)/\b.cell? ⟨gm,k,none⟩=some (.int .i64 (0:Nat)))
       ((refine ab.o _ ?_;(with_reducible repeat (first|exact Yab _ _|assumption|refine Zab ?_)))) (fail))
     |fail
     clear aC az ad aI aG;have r:=Hd l.o.drew;clear l ab;generalize wr.drew=aF at r⊢;have y:=Hd (aE.o (Zfn es n k) af ac k aF ap.o ay.o.symm q.o (by have h:=ZdY (Zfn es n k).met;rw[q.o.mlen]at h;exact h) (by rw[←t.o];exact r.o));go_wp2_with fail;refine y.o.mono ?_;rintro bb ba⟨rfl,aD,aJ,ag,_⟩;have aK:=Hd ag;clear ag y;go_wp2;go_roundw
     case rel=>
      refine⟨k+1,aD,aJ,by omega,by go_num,?_,?_⟩
      ·rw[f.o,Yay trivial,t.o];rw[t.o]at q ay;exact(Zgb av.o aA.o es.length _ k q.o ap.o ay.o.symm).1
      ·rw[f.o,Yay trivial,t.o];have a7:=aK.o;rw[t.o]at a7;exact a7
     case measure=>simp[intOf];omega
    ·have Z:¬(z:Int)=0:=by omega
     have a4:((z:Int)==0)=false:=Yah.2 (by omega);have ao:=Hd j;clear j;go_upto_region 5 with fail;first
     |(go_region_held (fun b=>b.cell? ⟨gb,0,none⟩=some (.slice (some ⟨gm,0,none⟩) n n)/\b.cell? ⟨B k,0,none⟩=some (.int .i64 k)/\b.cell? ⟨gm,k,none⟩=some (.int .i64 z))
       ((refine ab.o _ ?_;(with_reducible repeat (first|exact Yab _ _|assumption|refine Zab ?_)))) (fail))
     |fail
     clear aC az ad aI aG;have r:=Hd l.o.drew;clear l ab;generalize wr.drew=aF at r⊢;go_wp2;go_roundw
     case rel=>exact⟨k+1,af,ac,by omega,by go_num,by rw[f.o,Yar ao.o];exact q.o,by rw[f.o,Yar ao.o];exact r.o⟩
     case measure=>simp[intOf];omega
   ·obtain rfl:k=n:=by omega
    have ad:wr.cell? ⟨gb,3,none⟩=some (.slice (some ⟨gl,0,none⟩) k k):=a.box.cell 3 rfl;clear x a;go_wp2;go_ret;have aP:Zfn es k k=ZaI es k:=by
     unfold Zfn ZaI;rw[Yaz (by rw[Yb7];exact Yad _)]
    refine⟨gl,rfl,?_,aZ.o.ll,l.o.bel⟩;rw[←aP];exact l.o.loop
theorem Zol {A:Nat->Prop}(l:List (List UInt8))(s:List UInt8)(sv:Value)(w:World)(H:Src 1 StrR A w sv l)(u:l.length<=9223372036854775807) :
  Calls prog 100 #[sv,.string (S s)] w (Zll (l.any fun J=>J==s) w):=by
 have es:=Zaf s;rcases H with⟨V,K,rfl,rfl⟩|⟨b,o,O,rfl,_,C⟩
 ·go_enter func100,ntmps100;go_wp2
  go_loop [8] (fun j=>j=.int .i64 0) (fun _=>0)
  case atStart=>exact rfl
  case round=>
   subst hrel;go_wp2;go_ret;exact⟨-1,rfl,rfl,Yab _ _⟩
 ·have I:=Hd C;obtain⟨n,t⟩:∃n,n=l.length:=⟨_,rfl⟩
  rw[←t]at u⊢;have z:=Hd t;clear C t;obtain⟨p,a⟩:∃p:List UInt8->Bool,p=fun J=>J==s:=⟨_,rfl⟩
  rw[←a];have D:=Hd a;clear a;go_enter func100,ntmps100;go_wp2
  go_loop [8] (fun j=>∃k:Nat,k<=n/\j=.int .i64 k/\(l.take k).any p=false) (fun j=>n-(intOf j).toNat)
  case atStart=>exact⟨0,Yao _,rfl,by simp⟩
  case round=>
   obtain⟨k,T,rfl,f⟩:=hrel;have B:=Hd f;clear f;by_cases P:k<n
   ·have q:k<l.length:=by have:=z.o;omega
    obtain⟨x,m⟩:∃x,l[k]?=some x:=⟨_,Yaa q⟩
    obtain⟨v,F,y,r⟩:=I.o k x m;obtain rfl:=F;have U:w.cell? ⟨b,o+k,none⟩=some (.string (S x)):=by have Q:=r 0 _ rfl;rw[YaH]at Q;exact Q
    have R:=Zaf x;have g:=Zap p l k x m;rw[B.o,YaV]at g;have d:p x=(x==s):=by rw[D.o]
    have h:=Hd g;have E:=Hd m;clear m q g r y;have L:(0:Int)<=k:=by omega
    have N:(k:Int)<(n:Int):=by omega
    cases a:(x==s)with
    |true=>
     rw[a]at d;have c:l.any p=true:=by
      rw[YaU];exact⟨x,Yaf E.o,d⟩
     have i:=Hd c;have G:(s==x)=true:=by rw[beq_iff_eq]at a⊢;exact a.symm
     clear a c d h;go_wp2;go_ret;exact⟨k,rfl,by rw[i.o];simp,Yab _ _⟩
    |false=>
     rw[d,a]at h;have G:(s==x)=false:=by rw[Yah]at a⊢;exact fun e=>a e.symm
     clear a d;go_wp2;go_round
     case rel=>exact⟨k+1,by omega,by go_num,h.o⟩
     case measure=>simp[intOf];omega
   ·obtain rfl:k=n:=by omega
    have c:l.any p=false:=by
     have M:=B.o;rw[z.o,Yaz (Yad _)]at M;exact M
    have i:=Hd c;clear c;go_wp2;go_ret;exact⟨-1,rfl,by rw[i.o];rfl,Yab _ _⟩
theorem Zff {A:Nat->Prop}(l:List (List UInt8))(s:List UInt8)(sv:Value)(w:World)(b:Src 1 StrR A w sv l)(a:l.length<=9223372036854775807) :
  Calls prog 39 #[sv,.string (S s)] w (Said (l.any fun i=>i==s) w):=by
 have c:=Hd (Zol l s sv w b a);obtain⟨m,q,rfl⟩:=b.shape;generalize (l.any fun i=>i==s)=f at c⊢;generalize l.length=n at c⊢;clear b a;go_enter func39,ntmps39
 go_wp2_with fail;refine c.o.mono ?_;rintro e k⟨z,rfl,g,d⟩;have j:=Hd g;have h:=Hd d;clear g d;go_wp2;go_ret;exact⟨Ya8 (fun p=>Ending.returned (.bool p)) j.o,h.o⟩
theorem ZpZ {A:Nat->Prop}(m:Mth)(v:Value)(w:World)(Q:MthR A w m v)(H:CT w)(b:m.Fit) :
  Calls prog 133 #[v] w (Said m.body w):=by
 have V:=Ymf;obtain⟨ac,ab,Z,rfl,I,s,r⟩:=Q;obtain⟨n,l,rfl⟩:=I.shape;obtain⟨g,f,rfl⟩:=s.shape;obtain⟨h,i,rfl⟩:=r.shape;have c:Below w.heap.size w (w.alloc (.cells #[.string (S m.name),.slice n m.params.length l,.string (S m.res),.bool m.abs,.int .i64 m.loc,.slice g m.code.length f,.slice h m.cats.length i] 26)):=(Yab _ w).alloc (Yad _) _;have a:=Hd c;have z:=Hd (Box.new w #[.string (S m.name),.slice n m.params.length l,.string (S m.res),.bool m.abs,.int .i64 m.loc,.slice g m.code.length f,.slice h m.cats.length i] 26);have D:Hid (Calls prog 191 #[.slice g m.code.length f,.func (.func 192) #[] #[]] (w.alloc (.cells #[.string (S m.name),.slice n m.params.length l,.string (S m.res),.bool m.abs,.int .i64 m.loc,.slice g m.code.length f,.slice h m.cats.length i] 26)) (Said (m.code.all Ins.fine) (w.alloc (.cells #[.string (S m.name),.slice n m.params.length l,.string (S m.res),.bool m.abs,.int .i64 m.loc,.slice g m.code.length f,.slice h m.cats.length i] 26)))):=Hd (
  ZrZ (A:=A) 192 #[] Ins.fine m.code _ _ (Zac func192 (by kernel_rfl) rfl) (InsR.st.below s c) (fun k x u w' F y E=>by
   obtain rfl:=E;exact Zm9 x w' ((H.keep c).keep y) (b.code x (Yaf F))) b.n2)
 have B:Hid (∀W,Below (w.alloc (.cells #[.string (S m.name),.slice n m.params.length l,.string (S m.res),.bool m.abs,.int .i64 m.loc,.slice g m.code.length f,.slice h m.cats.length i] 26)).heap.size (w.alloc (.cells #[.string (S m.name),.slice n m.params.length l,.string (S m.res),.bool m.abs,.int .i64 m.loc,.slice g m.code.length f,.slice h m.cats.length i] 26)) W->Calls prog 193 #[.slice h m.cats.length i,.func (.func 194) #[] #[.pointer (some ⟨w.heap.size,0,none⟩)]] W (Said (m.cats.all (Cat.ok m.code.length)) W)):=Hd (fun W G=>
  ZrX (A:=A) 194 #[.pointer (some ⟨w.heap.size,0,none⟩)] (Cat.ok m.code.length) m.cats _ _ (Zac func194 (by kernel_rfl) rfl) (CatR.st.below (CatR.st.below r c) G) (fun k x u w' F y E=>by
   obtain rfl:=E;exact Zm6 x w.heap.size g m.code.length f w' (b.cats x (Yaf F)) (((z.o.below G).below y).cell 5 rfl)) b.n3)
 unfold Mth.body;clear I s r H b c;generalize m.code.all Ins.fine=P at D⊢;generalize m.cats.all (Cat.ok m.code.length)=aa at B⊢;generalize m.params.length=T at *;generalize m.code.length=q at *;generalize m.cats.length=J at *;obtain⟨name,params,res,O,loc,code,cats⟩:=m;dsimp only at *;cases O
 ·by_cases d:(T:Int)<loc
  case neg=>
   rw[Yan d];have K:=Yan d;go_enter func133,ntmps133;go_wp2;go_ret;exact⟨rfl,a.o⟩
  rw[Yas d];have K:=Yas d;by_cases t:0<q
  case neg=>
   rw[Yan t];have R:¬(0<(q:Int)):=by omega
   go_enter func133,ntmps133;go_wp2;go_ret;exact⟨rfl,a.o⟩
  rw[Yas t];have R:0<(q:Int):=by omega
  go_enter func133,ntmps133
  go_wp2_with fail;refine D.o.mono ?_;rintro e X⟨rfl,j⟩;have U:=(z.o.below j).cell 6 rfl;have M:=Hd j;have p:=Hd (a.o.trans (j.mono a.o.size));clear j;cases P
  ·go_wp2;go_ret;exact⟨rfl,p.o⟩
  ·go_wp2_with fail;refine(B.o _ M.o).mono ?_;rintro e w2⟨rfl,C⟩;have N:Below w.heap.size w w2:=p.o.trans (C.mono p.o.size);clear C U;go_wp2;go_ret;exact⟨rfl,N⟩
 ·by_cases d:loc=0
  case neg=>
   rw[Yan d];have K:(loc==0)=false:=by rw[Yah];exact d
   go_enter func133,ntmps133;go_wp2;go_ret;exact⟨rfl,a.o⟩
  subst d;by_cases t:q=0
  case neg=>
   rw[Yan t];have Y:((q:Int)==0)=false:=by rw[Yah];omega
   go_enter func133,ntmps133;go_wp2;go_ret;exact⟨rfl,a.o⟩
  subst t;by_cases L:J=0
  case neg=>
   rw[Yan L];have ad:((J:Int)==0)=false:=by rw[Yah];omega
   go_enter func133,ntmps133;go_wp2;go_ret;exact⟨rfl,a.o⟩
  subst L;go_enter func133,ntmps133;go_wp2;go_ret;exact⟨rfl,a.o⟩
theorem ZkE {A:Nat->Prop}(m:Mth)(v:Value)(w:World)(X:MthR A w m v)(T:CT w)(c:m.Fit) :
  Calls prog 82 #[v] w (Said m.ok w):=by
 have F:=X;obtain⟨aq,ap,ao,rfl,L,I,H⟩:=X;obtain⟨j,i,rfl⟩:=L.shape;obtain⟨q,n,rfl⟩:=I.shape;obtain⟨l,p,rfl⟩:=H.shape;have g:Below w.heap.size w (w.alloc (.cells #[.string (S m.name),.slice j m.params.length i,.string (S m.res),.bool m.abs,.int .i64 m.loc,.slice q m.code.length n,.slice l m.cats.length p] 26)):=(Yab _ w).alloc (Yad _) _;have G:=Hd g;have a:=Hd (Box.new w #[.string (S m.name),.slice j m.params.length i,.string (S m.res),.bool m.abs,.int .i64 m.loc,.slice q m.code.length n,.slice l m.cats.length p] 26);have aa:Hid (∀W,Calls prog 130 #[.string (S m.name)] W (Said (memB m.name) W)):=Hd (fun W=>ZgZ m.name W c.name);have Q:Hid (∀W,Below (w.alloc (.cells #[.string (S m.name),.slice j m.params.length i,.string (S m.res),.bool m.abs,.int .i64 m.loc,.slice q m.code.length n,.slice l m.cats.length p] 26)).heap.size (w.alloc (.cells #[.string (S m.name),.slice j m.params.length i,.string (S m.res),.bool m.abs,.int .i64 m.loc,.slice q m.code.length n,.slice l m.cats.length p] 26)) W->Calls prog 121 #[.slice j m.params.length i,.func (.func 131) #[] #[]] W (Said (m.params.all Zag) W)):=Hd (fun W E=>
  Znr (A:=A) 131 #[] Zag m.params _ _ (Zac func131 (by kernel_rfl) rfl) (StrR.st.below (StrR.st.below L g) E) (fun k x u w' ah ak ae=>by
   obtain rfl:=ae;exact Zgq x w' (c.params x (Yaf ah))) c.n1)
 have U:Hid (∀W,Calls prog 131 #[.string (S m.res)] W (Said (Zag m.res) W)):=Hd (fun W=>Zgq m.res W c.res);have z:Hid (∀W,Below (w.alloc (.cells #[.string (S m.name),.slice j m.params.length i,.string (S m.res),.bool m.abs,.int .i64 m.loc,.slice q m.code.length n,.slice l m.cats.length p] 26)).heap.size (w.alloc (.cells #[.string (S m.name),.slice j m.params.length i,.string (S m.res),.bool m.abs,.int .i64 m.loc,.slice q m.code.length n,.slice l m.cats.length p] 26)) W->Calls prog 133 #[.agg #[.string (S m.name),.slice j m.params.length i,.string (S m.res),.bool m.abs,.int .i64 m.loc,.slice q m.code.length n,.slice l m.cats.length p]] W (Said m.body W)):=Hd (fun W E=>
  ZpZ (A:=A) m _ W (MthR.st.keep (MthR.st.keep F (Yae (S:=fun _=>False) g) (fun _ _=>id)) (Yae (S:=fun _=>False) E) (fun _ _=>id)) ((T.keep g).keep E) c)
 have t:=Zci m.res [];unfold Mth.ok;clear L I H T c g F;generalize memB m.name=ab at aa⊢;generalize m.params.all Zag=ag at Q⊢;generalize Zag m.res=aj at U⊢;generalize m.body=am at z⊢;generalize decide (m.res=[])=ad at t⊢;have Y:=Hd t;clear t;go_enter func82,ntmps82
 go_wp2_with fail;refine(aa.o _).mono ?_;rintro e al⟨rfl,r⟩;have D:=Hd r;have y:=Hd (G.o.trans (r.mono G.o.size));have ai:=(a.o.below r).cell 1 rfl;clear r;cases ab
 ·go_wp2;go_ret;exact⟨rfl,y.o⟩
 go_wp2_with fail;refine(Q.o _ D.o).mono ?_;rintro e w2⟨rfl,B⟩;have b:=Hd (D.o.trans (B.mono D.o.size));have h:=Hd (y.o.trans (B.mono y.o.size));clear B ai;have Z:=(a.o.below b.o).cell 2 rfl;cases ag
 ·go_wp2;go_ret;exact⟨rfl,h.o⟩
 have t:=Y.o;cases ad
 case true=>
  have J:=(a.o.below b.o).cell 0 rfl;have P:=(a.o.below b.o).cell 1 rfl;have M:=(a.o.below b.o).cell 3 rfl;have O:=(a.o.below b.o).cell 4 rfl;have N:=(a.o.below b.o).cell 5 rfl;have K:=(a.o.below b.o).cell 6 rfl;go_wp2_with fail;refine(z.o _ b.o).mono ?_;rintro e V⟨rfl,f⟩;have s:Below w.heap.size w V:=h.o.trans (f.mono h.o.size);clear f Z J P M O N K;go_wp2;go_ret;exact⟨rfl,s⟩
 case false=>
  go_wp2_with fail;refine(U.o _).mono ?_;rintro e V⟨rfl,f⟩;have d:=Hd (b.o.trans (f.mono b.o.size));have C:=Hd (h.o.trans (f.mono h.o.size));clear f Z;cases aj
  ·go_wp2;go_ret;exact⟨rfl,C.o⟩
  have J:=(a.o.below d.o).cell 0 rfl;have P:=(a.o.below d.o).cell 1 rfl;have af:=(a.o.below d.o).cell 2 rfl;have M:=(a.o.below d.o).cell 3 rfl;have O:=(a.o.below d.o).cell 4 rfl;have N:=(a.o.below d.o).cell 5 rfl;have K:=(a.o.below d.o).cell 6 rfl;go_wp2_with fail;refine(z.o _ d.o).mono ?_;rintro e ac⟨rfl,s⟩;have R:Below w.heap.size w ac:=C.o.trans (s.mono C.o.size);clear s J P af M O N K;go_wp2;go_ret;exact⟨rfl,R⟩
theorem ZqR {A:Nat->Prop}(c:Cls)(v:Value)(w:World)(F:ClsR A w c v) :
  Calls prog 76 #[v] w (Said c.many w):=by
 obtain⟨L,M,I,rfl,E,q,i⟩:=F;obtain⟨lo,m,rfl⟩:=E.shape;obtain⟨h,fc,rfl⟩:=q.shape;obtain⟨f,d,rfl⟩:=i.shape;have b:Below w.heap.size w (w.alloc (.cells #[.string (S c.name),.string (S c.sup),.slice lo c.like.length m,.bool c.itf,.bool c.abs,.bool c.fin,.slice h c.flds.length fc,.slice f c.mths.length d] 70)):=(Yab _ w).alloc (Yad _) _;have a:=Hd b;have p:Hid (c.mths.length<=32->Calls prog 117 #[.slice f c.mths.length d,.func (.func 118) #[] #[]] (w.alloc (.cells #[.string (S c.name),.string (S c.sup),.slice lo c.like.length m,.bool c.itf,.bool c.abs,.bool c.fin,.slice h c.flds.length fc,.slice f c.mths.length d] 70)) (Said (c.mths.any Mth.many) (w.alloc (.cells #[.string (S c.name),.string (S c.sup),.slice lo c.like.length m,.bool c.itf,.bool c.abs,.bool c.fin,.slice h c.flds.length fc,.slice f c.mths.length d] 70)))):=Hd (fun H=>
  Zdn (A:=A) 118 #[] Mth.many c.mths _ _ (Zac func118 (by kernel_rfl) rfl) (MthR.st.below i b) (fun k x u w' _ _ G=>ZoN x u w' G) (by omega))
 unfold Cls.many;clear E q i b;generalize c.mths.any Mth.many=J at p⊢;generalize c.like.length=n at *;generalize c.flds.length=l at *;generalize c.mths.length=j at *;by_cases r:32<n
 case pos=>
  rw[Yas r];have t:32<(n:Int):=by omega
  go_enter func76,ntmps76;go_wp2;go_ret;exact⟨rfl,a.o⟩
 rw[Yan r,YaV];have t:¬(32<(n:Int)):=by omega
 by_cases y:32<l
 case pos=>
  rw[Yas y];have s:32<(l:Int):=by omega
  go_enter func76,ntmps76;go_wp2;go_ret;exact⟨rfl,a.o⟩
 rw[Yan y,YaV];have s:¬(32<(l:Int)):=by omega
 by_cases B:32<j
 case pos=>
  rw[Yas B];have z:32<(j:Int):=by omega
  go_enter func76,ntmps76;go_wp2;go_ret;exact⟨rfl,a.o⟩
 rw[Yan B,YaV];have z:¬(32<(j:Int)):=by omega
 have D:=Hd (p.o (by omega));clear p;go_enter func76,ntmps76
 go_wp2_with fail;refine D.o.mono ?_;rintro e K⟨rfl,g⟩;have C:=Hd (a.o.trans (g.mono a.o.size));clear g;go_wp2;go_ret;exact⟨rfl,C.o⟩
theorem Zp1 {A:Nat->Prop}(c:Cls)(v:Value)(w:World)(E:ClsR A w c v)(F:c.mths.length<=32) :
  Calls prog 78 #[v] w (Said c.sort w):=by
 obtain⟨I,J,G,rfl,B,r,l⟩:=E;obtain⟨lo,j,rfl⟩:=B.shape;obtain⟨i,fc,rfl⟩:=r.shape;obtain⟨f,d,rfl⟩:=l.shape;have h:Below w.heap.size w (w.alloc (.cells #[.string (S c.name),.string (S c.sup),.slice lo c.like.length j,.bool c.itf,.bool c.abs,.bool c.fin,.slice i c.flds.length fc,.slice f c.mths.length d] 70)):=(Yab _ w).alloc (Yad _) _;have a:=Hd h;have m:=Hd (Box.new w #[.string (S c.name),.string (S c.sup),.slice lo c.like.length j,.bool c.itf,.bool c.abs,.bool c.fin,.slice i c.flds.length fc,.slice f c.mths.length d] 70);have z:Hid (Calls prog 117 #[.slice f c.mths.length d,.func (.func 128) #[] #[]] (w.alloc (.cells #[.string (S c.name),.string (S c.sup),.slice lo c.like.length j,.bool c.itf,.bool c.abs,.bool c.fin,.slice i c.flds.length fc,.slice f c.mths.length d] 70)) (Said (c.mths.any Mth.abs) (w.alloc (.cells #[.string (S c.name),.string (S c.sup),.slice lo c.like.length j,.bool c.itf,.bool c.abs,.bool c.fin,.slice i c.flds.length fc,.slice f c.mths.length d] 70)))):=Hd (
  Zdn (A:=A) 128 #[] Mth.abs c.mths _ _ (Zac func128 (by kernel_rfl) rfl) (MthR.st.below l h) (fun k x u w' _ _ p=>ZiJ x u w' p) (by omega))
 have t:Hid (Calls prog 81 #[.slice f c.mths.length d,.func (.func 128) #[] #[]] (w.alloc (.cells #[.string (S c.name),.string (S c.sup),.slice lo c.like.length j,.bool c.itf,.bool c.abs,.bool c.fin,.slice i c.flds.length fc,.slice f c.mths.length d] 70)) (Said (c.mths.all Mth.abs) (w.alloc (.cells #[.string (S c.name),.string (S c.sup),.slice lo c.like.length j,.bool c.itf,.bool c.abs,.bool c.fin,.slice i c.flds.length fc,.slice f c.mths.length d] 70)))):=Hd (
  Znq (A:=A) 128 #[] Mth.abs c.mths _ _ (Zac func128 (by kernel_rfl) rfl) (MthR.st.below l h) (fun k x u w' _ _ p=>ZiJ x u w' p) (by omega))
 have n:=Zci c.sup [79,98,106,101,99,116];unfold Cls.sort objL;clear B r l h F;generalize c.mths.any Mth.abs=C at z⊢;generalize c.mths.all Mth.abs=M at t⊢;generalize c.mths.length=H at *;generalize c.flds.length=s at *;generalize c.like.length=L at *;obtain⟨name,sup,like,itf,abs,fin,flds,mths⟩:=c;dsimp only at *;cases abs
 ·go_enter func78,ntmps78
  go_wp2_with fail;refine z.o.mono ?_;rintro e D⟨rfl,b⟩;have N:=(m.o.below b).cell 3 rfl;have O:=(m.o.below b).cell 4 rfl;have g:=Hd (a.o.trans (b.mono a.o.size));clear b;cases C
  ·cases itf
   ·go_wp2;go_ret;exact⟨by cases fin<;>rfl,g.o⟩
   ·go_wp2;go_ret;exact⟨by cases fin<;>rfl,g.o⟩
  ·go_wp2;go_ret;exact⟨by cases fin<;>rfl,g.o⟩
 ·cases fin
  case true=>
   go_enter func78,ntmps78;go_wp2;go_ret;exact⟨rfl,a.o⟩
  cases itf
  ·go_enter func78,ntmps78;go_wp2;go_ret;exact⟨rfl,a.o⟩
  by_cases q:sup=[79,98,106,101,99,116]
  case neg=>
   rw[Yan q]at n⊢;go_enter func78,ntmps78;go_wp2;go_ret;exact⟨rfl,a.o⟩
  rw[Yas q]at n⊢;clear q;by_cases y:s=0
  case neg=>
   rw[Yan y];have K:((s:Int)==0)=false:=by rw[Yah];omega
   go_enter func78,ntmps78;go_wp2;go_ret;exact⟨rfl,a.o⟩
  subst y;go_enter func78,ntmps78
  go_wp2_with fail;refine t.o.mono ?_;rintro e D⟨rfl,b⟩;have g:=Hd (a.o.trans (b.mono a.o.size));clear b;go_wp2;go_ret;exact⟨rfl,g.o⟩
