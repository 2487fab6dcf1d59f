/- laws -/
import Derived.Test.YtegljjbclladdaaGreatDoorK17
set_option maxRecDepth 100000
set_option maxHeartbeats 16000000
namespace Go.Proofs.YtegljjbclladdaaGreatDoor
open Go.RowKit Tryz
theorem ZkU:(prog.info? 82).map (fun i=>(i.zero,i.size,i.bytes))=some (some (.agg #[.string ⟨#[]⟩,.string ⟨#[]⟩,.bool false]),3,40):=by kernel_rfl
theorem TRow.lower {α:Type}{n:Nat}{t:TypeId}{R:Zao α}(j:Stays R){lo a:Nat}{w:World}{c:Value}{m:List α}{d:List Value}(h:TRow n t R lo w c m d)(f:a<=lo):TRow n t R a w c m d:=
 ⟨h.row,fun g q=>Yaj f (h.own g q),h.len,h.size,fun k x p=>by obtain⟨u,l,r⟩:=h.each k x p;exact⟨u,l,j.mono r (fun i _ b=>⟨Yaj f b.1,b.2⟩)⟩⟩
def Za6 (es:List Ent)(i:Nat):List Fld:=match es[i]? with|some e=>e.cls.flds|none=>[]
def ZaZ (es:List Ent):List Nat->List Fld
 |[]=>[]
 |i::l=>ZaZ es l++Za6 es i
theorem ZeG {es:List Ent}(b:∀(i:Nat) (e:Ent),es[i]?=some e->e.cls.flds.length<=32):∀L,(ZaZ es L).length<=L.length*32
 |[]=>by simp[ZaZ]
 |i::l=>by
  have d:=ZeG b l;have c:(Za6 es i).length<=32:=by
   unfold Za6;cases a:es[i]? with
   |none=>simp
   |some e=>exact b i e a
  simp only[ZaZ,Yal,YaI];omega
def ZfB (fs:List Fld)(w:World)(e:Ending)(w':World):Prop:=∃v,e=.returned v/\TRow 3 82 FldR w.heap.size w' v fs (fs.map fldV)/\Below w.heap.size w w'
theorem ZlM {A:Nat->Prop}{B:Nat->Nat}{al af:Nat}{es:List Ent}{F:World}(M:Tab A F al af B es)(m:∀(i:Nat) (e:Ent),es[i]?=some e->e.cls.flds.length<=32) :
  ∀(L:List Nat) (o:Option Nat) (w:World),ZdA es L o->L.length<=1048576->Below F.heap.size F w->Calls prog 216 #[ptrV B o] w (ZfB (ZaZ es L) w):=by
 intro L;induction L with
 |nil=>
  intro o w G _ _;obtain rfl:o=none:=G;rw[Zdx];go_enter func216,ntmps216
  go_wp2_with fail;go_ret;exact⟨_,rfl,TRow.nil _ _,Yab _ _⟩
 |cons i l T=>
  intro o w G V a;obtain⟨rfl,e,q,D⟩:=G;rw[Zbv];obtain⟨aq,O,am,sv,E,_,k,_,_⟩:=M.ent i e q;have j:Za6 es i=e.cls.flds:=by unfold Za6;rw[q]
  have J:=ZeG m l;have P:=m i e q;rw[YaI]at V;obtain⟨Y,y,z,C,t⟩:=info_parts ZkU;have H:Hid (∀W,Below w.heap.size w W->Calls prog 216 #[ptrV B e.up] W (fun en w'=>∃v,en=.returned v/\TRow 3 82 FldR w.heap.size w' v (ZaZ es l) ((ZaZ es l).map fldV)/\Below w.heap.size w w')):=Hd (fun W b=>
   (T e.up W D (by omega) (a.trans (b.mono a.size))).mono fun en w' ⟨v,p,h,ah⟩=>⟨v,p,h.lower FldR.st b.size,b.trans (ah.mono b.size)⟩)
  have c:Hid (∀(W:World) (v:Value) (ty:TypeId),TRow 3 82 FldR w.heap.size W v (ZaZ es l) ((ZaZ es l).map fldV)->Below w.heap.size w W->∃d w',(Builtin.append_ #[67,67] ty #[v,O]).run prog W=.ok d w'/\
    TRow 3 82 FldR w.heap.size w' d (ZaZ es (i::l)) ((ZaZ es (i::l)).map fldV)/\Below w.heap.size w w'):=Hd (fun W v ty p h=>by
   obtain⟨d,w',s,aj,ag⟩:=Zbu (f:=fldV) (n:=3) (by decide) (fun _=>rfl) (fun x u Q=>by simp[Value.cells]at Q;rcases Q with rfl|rfl|rfl<;>rfl) 67 ty 82 Y _ 40 underlying67 y z C t rfl p h.size
    (FldR.st.below k (a.trans (h.mono a.size))) (by omega) (by omega)
   refine⟨d,w',s,?_,h.trans ((ag.only.below h.size (fun g ae=>p.own g ae)))⟩;show TRow 3 _ FldR _ w' d (ZaZ es l++Za6 es i) _;rw[j];show TRow 3 _ FldR _ w' d (ZaZ es l++e.cls.flds) ((ZaZ es l++Za6 es i).map fldV);rw[j];exact aj)
  have r:Hid (∀W,Below w.heap.size w W->W.cell? ⟨B i,9,none⟩=some (ptrV B e.up)/\W.cell? ⟨B i,7,none⟩=some O):=Hd (fun W b=>⟨(E.below (a.trans (b.mono a.size))).cell 9 rfl,(E.below (a.trans (b.mono a.size))).cell 7 rfl⟩);obtain⟨aa,fc,rfl⟩:=k.shape;have X:Below w.heap.size w w:=Yab _ _;clear T D k E j J P V y z C t a M m;obtain⟨ar,R⟩:=Zc0 B e.up;rw[R]at H r;clear R;generalize e.cls.flds.length=n at c r;unfold ZfB;generalize ZaZ es (i::l)=fs at c⊢;generalize ZaZ es l=ak at H c;clear q;obtain⟨ad,Z⟩:=r.o w X;go_enter func216,ntmps216
  go_upto_region 3 with fail;first
  |(go_region_held3 (fun W=>W.cell? ⟨B i,9,none⟩=some (.pointer ar)/\W.cell? ⟨B i,7,none⟩=some (.slice aa n fc)) ((refine r.o _ ?_;(with_reducible repeat (first|exact Yab _ _|assumption|refine Zab ?_))))
    (first
     |((go_at_call 216;(with_reducible refine(H.o _ ?_).mono ?_);(focus ((with_reducible repeat (first|exact Yab _ _|assumption|refine Zab ?_));done));rintro en ap⟨ao,rfl,U,N⟩))
     |((obtain⟨ab,w2,s,I,K⟩:=c.o _ _ 67 U N;refine ZaK (by rfl) _ _ 67 (by rfl) _ _ ab w2 (by rfl) (by rfl) s ?_))))
  |fail
  all_goals
   have ai:=Hd I;have ac:=Hd K;clear U N I K s ad Z;go_wp2;go_ret;exact⟨_,rfl,ai.o,ac.o⟩
def Zei (es:List Ent)(n:List UInt8):List Fld:=ZaZ es (Zan es (Zad es n))
theorem ZeO (es:List Ent):∀(n:Nat) (o:Option Nat),(Zf8 es n o).length<=n
 |0,_=>by simp[Zf8]
 |n+1,none=>by simp[Zf8]
 |n+1,some i=>by
  unfold Zf8;split
  ·rw[YaI];exact Nat.succ_le_succ (ZeO es n _)
  ·simp
theorem ZfU {A:Nat->Prop}{B:Nat->Nat}{t q:Nat}{es:List Ent}{g:World}(d:Tab A g t q B es)(a:Shape es)(n:List UInt8)(w:World)(c:Below g.heap.size g w)(l:n.length<=9223372036854775807) :
  Calls prog 172 #[.pointer (some ⟨t,0,none⟩),.string (S n)] w (ZfB (Zei es n) w):=by
 have b:=Hd (ZlM d a.fl (Zan es (Zad es n)) (Zad es n) w (a.line _ (fun i s=>ZaV s)) (Yaj (ZeO es _ _) a.len) c);have m:=(d.below c).box.cell 0 rfl;have f:=(d.below c).look n l;obtain⟨x,j⟩:=Zc0 B (Zad es n);rw[j]at f b;unfold ZfB at b;clear j d a c l;go_enter func172,ntmps172
 go_wp2_with fail;refine b.o.mono ?_;rintro e u⟨v,rfl,h,k⟩;have p:=Hd h;have r:=Hd k;clear h k m f b;go_wp2;go_ret;exact⟨_,rfl,p.o,r.o⟩
def idxV:Option Nat->Int
 |some k=>k
 |none=>-1
def Zef (o:Option Nat)(w:World)(e:Ending)(w':World):Prop:=e=.returned (.int .i64 (idxV o))/\Below w.heap.size w w'
theorem Zhu {α:Type}{p:α->Bool}{l:List α}{k:Nat}{x:α}(c:l[k]?=some x)(d:(l.take k).any p=false)(b:p x=true):l.findIdx? p=some k:=by
 obtain⟨h,f⟩:=Yag.1 c;rw[YaX];refine⟨h,by rw[f];exact b,fun j g=>?_⟩;have a:=YaW.1 d (l[j]'(by omega)) (Yaf (i:=j) (by rw[Ycp g,Yaa (by omega)]));simpa using a
theorem ZlX {A:Nat->Prop}(N:Nat)(j:Array Value)(p:Fld->Bool)(l:List (Fld))(sv:Value)(w:World)(u:∀args w,(callFunc N args).run prog w=.ok (.enter N args) w)
  (W:Src 3 FldR A w sv l)(M:Zeg FldR A N j p l w)(G:l.length<=9223372036854775807) :
  Calls prog 142 #[sv,.func (.func N) #[] j] w (Zef (l.findIdx? p) w):=by
 have Q:=Hd M;have O:=Hd u;clear M u;rcases W with⟨af,Y,rfl,rfl⟩|⟨b,o,ac,rfl,_,L⟩
 ·go_enter func142,ntmps142;go_wp2
  go_loopw [8] (fun t wr=>t=.int .i64 0/\wr=w) (fun _ _=>0)
  case atStart=>exact⟨rfl,rfl⟩
  case round=>
   obtain⟨rfl,rfl⟩:=hrel;go_wp2;go_ret;exact⟨rfl,Yab _ _⟩
 ·have X:=Hd L;obtain⟨n,E⟩:∃n,n=l.length:=⟨_,rfl⟩
  rw[←E]at G⊢;have I:=Hd E;clear L E;go_enter func142,ntmps142;go_wp2
  go_loopw [8] (fun t wr=>∃k:Nat,k<=n/\t=.int .i64 k/\(l.take k).any p=false/\Below w.heap.size w wr) (fun t _=>n-(intOf t).toNat)
  case atStart=>exact⟨0,Yao _,rfl,by simp,Yab _ _⟩
  case round=>
   obtain⟨k,ae,rfl,i,D⟩:=hrel;have F:=Hd i;have h:=Hd D;clear i D;by_cases ad:k<n
   ·have B:k<l.length:=by have:=I.o;omega
    obtain⟨x,g⟩:∃x,l[k]?=some x:=⟨_,Yaa B⟩
    have d:=Yae (S:=fun _=>False) h.o;obtain⟨v,K,H,f⟩:=X.o k x g;have R:=Hd (FldR.st.keep K d (fun _ _=>id));obtain rfl:=K;have T:wr.cell? ⟨b,o+k*3,none⟩=some (.string (S x.name)):=d.cell (a:=⟨b,o+k*3,none⟩) (f 0 _ rfl) id;have V:wr.cell? ⟨b,o+k*3+1,none⟩=some (.string (S x.kind)):=d.cell (a:=⟨b,o+k*3+1,none⟩) (f 1 _ rfl) id;have U:wr.cell? ⟨b,o+k*3+2,none⟩=some (.bool x.tr):=d.cell (a:=⟨b,o+k*3+2,none⟩) (f 2 _ rfl) id;clear f H;have J:=Hd g;have q:=Zap p l k x g;rw[F.o,YaV]at q;have r:=Hd q;clear g B d q;have Z:(0:Int)<=k:=by omega
    have ab:(k:Int)<(n:Int):=by omega
    have u:=O.o;go_wp2_with fail;refine(Q.o k x _ wr J.o h.o R.o).mono ?_;rintro e P⟨rfl,z⟩;have C:Below w.heap.size w P:=h.o.trans (z.mono h.o.size);have y:=Hd C;clear z C u T V U;cases m:p x with
    |true=>
     rw[m]at r;have c:l.findIdx? p=some k:=Zhu (l:=l) J.o F.o m;have s:=Hd c;clear m c;go_wp2;go_ret;exact⟨by rw[s.o];rfl,y.o⟩
    |false=>
     rw[m]at r;clear m;go_wp2;go_roundw
     case rel=>exact⟨k+1,by omega,by go_num,r.o,y.o⟩
     case measure=>simp[intOf];omega
   ·obtain rfl:k=n:=by omega
    have c:l.findIdx? p=none:=by
     have aa:=F.o;rw[I.o,Yaz (Yad _)]at aa;rw[YbK];intro x g;have:=YaW.1 aa x g;simpa using this
    have s:=Hd c;clear c;go_wp2;go_ret;exact⟨by rw[s.o];rfl,h.o⟩
theorem ZmO {w:World}{f:Fld}{n:List UInt8}{c:Nat}(d:w.cell? ⟨c,0,none⟩=some (.string (S n))) :
  Calls prog 215 #[fldV f,.pointer (some ⟨c,0,none⟩)] w (Said (f.name==n) w):=by
 have b:=Zaf f.name;have g:=Zaf n;have a:c<w.heap.size:=World.block_lt_of_cell? w _ d

 go_enter func215,ntmps215;go_wp2;go_ret;exact⟨rfl,(Yab _ w).alloc (Yad _) _⟩
def Zbc (es:List Ent)(n f:List UInt8):Option Nat:=(Zei es n).findIdx? (fun x=>x.name==f)
theorem ZmQ {A:Nat->Prop}{B:Nat->Nat}{I F:Nat}{es:List Ent}{p:World}(y:Tab A p I F B es)(d:Shape es)(n f:List UInt8)(w:World)(m:Below p.heap.size p w)(C:n.length<=9223372036854775807) :
  Calls prog 171 #[.pointer (some ⟨I,0,none⟩),.string (S n),.string (S f)] w (Zef (Zbc es n f) w):=by
 have K:=Ymf;have a:Below w.heap.size w (w.alloc (.cells #[.string (S f)] 9)):=Zaa (Yab _ _) _;have s:=Hd (ZfU y d n _ (m.trans (a.mono m.size)) C);have b:(Zei es n).length<=9223372036854775807:=by
  have c:=ZeG d.fl (Zan es (Zad es n));have g:=ZeO es es.length (Zad es n);have q:=d.len;unfold Zei;unfold Zan at c⊢;omega
 have h:Hid (∀w' v,Below (w.alloc (.cells #[.string (S f)] 9)).heap.size (w.alloc (.cells #[.string (S f)] 9)) w'->TRow 3 82 FldR (w.alloc (.cells #[.string (S f)] 9)).heap.size w' v (Zei es n) ((Zei es n).map fldV)->
   Calls prog 142 #[v,.func (.func 215) #[] #[.pointer (some ⟨w.heap.size,0,none⟩)]] w' (Zef (Zbc es n f) w')):=Hd (fun w' v j G=>
  ZlX _ _ (fun x=>x.name==f) (Zei es n) v w' (Zac func215 (by kernel_rfl) rfl) (G.src FldR.st) (fun k x u J _ r H=>by
   obtain rfl:=H;exact ZmO (((Box.new w #[.string (S f)] 9).below (j.trans (r.mono j.size))).cell 0 rfl)) b)
 have l:=Hd a;unfold ZfB at s;unfold Zef at h⊢;generalize idxV (Zbc es n f)=z at h⊢;clear y d m C a b;go_enter func171,ntmps171
 go_wp2_with fail;refine s.o.mono ?_;rintro e E⟨v,rfl,c,g⟩;have D:=Hd (h.o E v g c);have i:=Hd (l.o.trans (g.mono l.o.size));clear c g s h;go_wp2_with fail;refine D.o.mono ?_;rintro e w2⟨rfl,q⟩;have t:=Hd (i.o.trans (q.mono i.o.size));clear q D;go_wp2;go_ret;exact⟨rfl,t.o⟩
def MPtr (A:Nat->Prop)(w:World)(p:Value)(m:Mth):Prop:=∃b o v,p=.pointer (some ⟨b,o,none⟩)/\MthR A w m v/\v.cells.size=7/\b<w.heap.size/\∀(a:Nat) u,v.cells[a]?=some u->w.cell? ⟨b,o+a,none⟩=some u
def Zal (es:List Ent)(i:Nat):List Mth:=match es[i]? with|some e=>e.cls.mths|none=>[]
def ownM (es:List Ent)(x:Nat)(n:List UInt8):Option Mth:=(Zal es x).find? (fun m=>m.name==n)
def OwnP (A:Nat->Prop)(w:World)(o:Option Mth)(p:Value):Prop:=match o with
 |some m=>MPtr A w p m
 |none=>p=.pointer none
def OwnG (A:Nat->Prop)(a:World)(o:Option Mth)(w:World)(e:Ending)(w':World):Prop:=∃p,e=.returned p/\OwnP A a o p/\Below w.heap.size w w'
theorem Zrd {A:Nat->Prop}{B:Nat->Nat}{al aa:Nat}{es:List Ent}{g:World}(J:Tab A g al aa B es)(i:Nat)(O:i<es.length)(n:List UInt8)(w:World)(E:Below g.heap.size g w)(u:(Zal es i).length<=9223372036854775807) :
  Calls prog 207 #[.pointer (some ⟨B i,0,none⟩),.string (S n)] w (OwnG A g (ownM es i n) w):=by
 obtain⟨ar,ap,ao,sv,H,_,_,l,_⟩:=J.ent i es[i] (Yaa O);have D:Zal es i=es[i].cls.mths:=by unfold Zal;rw[Yaa O]
 rw[←D]at l;unfold ownM;generalize Zal es i=d at l u⊢;obtain⟨P,Y,rfl⟩:=l.shape;have U:=Hd (Src.elem l);have Z:=Hd E;obtain⟨p,h⟩:∃k,k=d.length:=⟨_,rfl⟩
 have I:=Hd h;have ae:w.cell? ⟨B i,8,none⟩=some (.slice P d.length Y):=(H.below E).cell 8 rfl;rw[←h]at u ae;have am:=Zaf n;have r:∀(k:Nat) (x:Mth),d[k]?=some x->∀b o,P=some ⟨b,o,none⟩->b<g.heap.size:=fun k x f b o ab=>by
  obtain⟨af,aw,v,L,_,az,W⟩:=U.o k x f;rw[ab]at L;have K:=Yac L;have ag:b=af:=Ya8 Addr.block K;have:=World.block_lt_of_cell? g _ (W 0 (v.cells[0]'(by omega)) (YbZ _));rw[ag];exact this
 have V:=Hd r;clear H l D h J E r;go_enter func207,ntmps207;go_wp2
 go_loopw [12] (fun v wr=>∃k:Nat,k<=p/\v=.int .i64 k/\(d.take k).any (fun m=>m.name==n)=false/\wr=w) (fun v _=>p-(intOf v).toNat)
 case atStart=>exact⟨0,Yao _,rfl,by simp,rfl⟩
 case round=>
  obtain⟨k,au,rfl,j,rfl⟩:=hrel;have G:=Hd j;clear j;by_cases ak:k<p
  ·have z:k<d.length:=by have:=I.o;omega
   obtain⟨x,f⟩:∃x,d[k]?=some x:=⟨_,Yaa z⟩
   obtain⟨b,o,v,rfl,N,y,t⟩:=U.o k x f;have ac:=Hd N;have F:=Hd f;have Q:=Hd t;obtain⟨aC,aB,ay,C,_,_,_⟩:=N;have av:wr.cell? ⟨b,o+k*7,none⟩=some (.string (S x.name)):=(Yae (S:=fun _=>False) Z.o).cell (a:=⟨b,o+k*7,none⟩) (by have aA:=t 0 (.string (S x.name)) (by rw[C];rfl);exact aA) id;have aq:=Zaf x.name;have ad:(0:Int)<=k:=by omega
   have aj:(k:Int)<(p:Int):=by omega
   have R:=Hd y;clear t C f z y;cases M:(x.name==n)with
   |true=>
    have c:d.find? (fun m=>m.name==n)=some x:=ZiD F.o (fun ax aD ah X=>by
     have:=YaW.1 G.o aD (Yaf (i:=ax) (by rw[Ycp ah];exact X));simpa using this) M
    have s:=Hd c;clear c;go_wp2;go_ret;refine⟨_,rfl,?_,Yab _ _⟩;rw[s.o];exact⟨b,o+k*7,v,rfl,ac.o,R.o,V.o k x F.o b o rfl,Q.o⟩
   |false=>
    have q:=Zap (fun m:Mth=>m.name==n) d k x F.o;rw[G.o,M]at q;have T:=Hd q;clear q;go_wp2;go_roundw
    case rel=>exact⟨k+1,by omega,by go_num,T.o,(by first|rfl|trivial)⟩
    case measure=>simp[intOf];omega
  ·obtain rfl:p=k:=by omega
   have c:d.find? (fun m=>m.name==n)=none:=by
    have ai:=G.o;rw[I.o,Yaz (Yad _)]at ai;rw[Ycl];intro x f;have:=YaW.1 ai x f;simpa using this
   have s:=Hd c;clear c;go_wp2;go_ret;refine⟨_,rfl,?_,Yab _ _⟩;rw[s.o];exact rfl
def Seen1 (B:Nat->Nat)(x c b:Nat)(p:Value)(w w':World):Prop:=∃a,Below w.heap.size w a/\w'=(a.setCell ⟨c,0,none⟩ (entV B x)).setCell ⟨b,0,none⟩ p
theorem ZoQ {A:Nat->Prop}{B:Nat->Nat}{O H:Nat}{es:List Ent}{j:World}(s:Tab A j O H B es)(x:Nat)(L:x<es.length)(n:List UInt8)(w:World)(u:Below j.heap.size j w)(i:(Zal es x).length<=9223372036854775807)
  (D C g:Nat)(I J:Option Addr)(y:w.cell? ⟨D,0,none⟩=some (.string (S n)))(t:Box w C #[.pointer I] 77)(E:Box w g #[.pointer J] 148)(k:C≠g) :
  Calls prog 206 #[entV B x,.pointer (some ⟨D,0,none⟩),.pointer (some ⟨C,0,none⟩),.pointer (some ⟨g,0,none⟩)] w
   (YesNo (fun w'=>∃m p,ownM es x n=some m/\MPtr A j p m/\Seen1 B x C g p w w') (fun w'=>ownM es x n=none/\Seen1 B x C g (.pointer none) w w')):=by
 have h:=Hd (Zrd s x L n w u i);have M:=Hd t;have N:=Hd E;have r:=Hd k;clear s u i t E k;unfold OwnG at h;generalize d:ownM es x n=o at h⊢;clear d;go_enter func206,ntmps206
 go_wp2_with fail;refine h.o.mono ?_;rintro e z⟨p,rfl,l,f⟩;have q:=Hd f;have d:=M.o.below f;have c:=N.o.below f;have a:=r.o;have T:=d.cell 0 rfl;have Q:=d.free 0;have P:=(c.set_ne (Ne.symm a) 0 (entV B x)).cell 0 rfl;have R:=(c.set_ne (Ne.symm a) 0 (entV B x)).free 0;cases o with
 |none=>
  obtain rfl:p=.pointer none:=l;have F:=((c.set_ne (Ne.symm a) 0 (entV B x)).set 0 (.pointer none)).cell 0 rfl;clear f d c h y a;go_wp2;go_ret;exact⟨false,rfl,(fun K=>by cases K),fun _=>⟨z,q.o,rfl⟩⟩
 |some m=>
  have G:=Hd l;obtain⟨b,o,v,rfl,_⟩:=l;have F:=((c.set_ne (Ne.symm a) 0 (entV B x)).set 0 (.pointer (some ⟨b,o,none⟩))).cell 0 rfl;clear f d c h y a;go_wp2;go_ret;exact⟨true,rfl,fun _=>⟨m,_,rfl,G.o,z,q.o,rfl⟩,(fun K=>by cases K)⟩
theorem ZkX {P:Program}{t e:TypeId}(b:P.underlying t=some (.pointer e)){w:World}{a:Addr}{v:Value}(c:w.cell? a=some v):(loadVar t a).run P w=.ok v w:=by
 simp[loadVar,isAgg,run_underlying b,c,Result.andThen]
def Zbt (es:List Ent)(o:Option Nat)(n:List UInt8):Option (Nat×Mth):=(ZaC es o).findSome? (fun x=>(ownM es x n).map (fun m=>(x,m)))
def ZsV (A:Nat->Prop)(B:Nat->Nat)(w:World)(c:Option (Nat×Mth))(b a:Option Addr):Prop:=match c with
 |some (x,m)=>b=some ⟨B x,0,none⟩/\MPtr A w (.pointer a) m
 |none=>a=none
def Zp4 (A:Nat->Prop)(B:Nat->Nat)(c:World)(d:Option (Nat×Mth))(w:World)(e:Ending)(w':World):Prop:=∃a b,e=.returned (.tuple #[.pointer a,.pointer b])/\ZsV A B c d a b/\Below w.heap.size w w'
theorem Zht {α m:Type}{f:α->Option m}{l:List α}{k:Nat}{x:α}{n:m}(b:l[k]?=some x)(c:∀d z,d<k->l[d]?=some z->f z=none)(j:f x=some n):l.findSome? f=some n:=by
 induction l generalizing k with
 |nil=>simp at b
 |cons a l i=>
  cases k with
  |zero=>
   simp at b;subst b;rw[YbG,j]
  |succ k=>
   have g:=c 0 a (by omega) rfl;rw[YbG,g];exact i (k:=k) (by simpa using b) (fun d z p h=>c (d+1) z (by omega) (by simpa using h))
theorem Seen1.boxes {B:Nat->Nat}{x f a:Nat}{i g:Option Addr}{p:Option Addr}{w w':World}(l:Seen1 B x f a (.pointer p) w w')(j:Box w f #[.pointer i] 77)(h:Box w a #[.pointer g] 148)(d:f≠a) :
  Box w' f #[entV B x] 77/\Box w' a #[.pointer p] 148/\Only (fun b=>b=f\/b=a) w w':=by
 obtain⟨k,c,rfl⟩:=l;exact⟨((j.below c).set 0 _).set_ne d 0 _,((h.below c).set_ne (Ne.symm d) 0 _).set 0 _,((Yae c).setCell (Or.inl rfl) _).setCell (Or.inr rfl) _⟩
def ZtA (es:List Ent)(o:Option Nat)(n:List UInt8)(d a:Nat)(W:World)(k:Nat)(w':World):Prop:=
 (∃c,Box w' d #[.pointer c] 77)/\Box w' a #[.pointer none] 148/\Only (fun b=>b=d\/b=a) W w'/\∀f x,f<k->(ZaC es o)[f]?=some x->ownM es x n=none
def ZrT (A:Nat->Prop)(B:Nat->Nat)(f:World)(es:List Ent)(o:Option Nat)(n:List UInt8)(g a:Nat)(W:World)(w':World):Prop:=
 ∃c d,Box w' g #[.pointer c] 77/\Box w' a #[.pointer d] 148/\ZsV A B f (Zbt es o n) c d/\Only (fun b=>b=g\/b=a) W w'
theorem Zl7 {A:Nat->Prop}{B:Nat->Nat}{ak Z:Nat}{es:List Ent}{l:World}(Q:Tab A l ak Z B es)(w:Shape es)(P:∀i,(Zal es i).length<=9223372036854775807)(o:Option Nat)(q:∀i,o=some i->i<es.length)(n:List UInt8)
  (r E d:Nat)(W:World)(D:Below l.heap.size l W)(T:W.cell? ⟨r,0,none⟩=some (.string (S n)))(R:Box W E #[.pointer none] 77)(Y:Box W d #[.pointer none] 148)(K:E≠d)(ae:r≠E)(ac:r≠d)(af:l.heap.size<=E)(ai:l.heap.size<=d) :
  Calls prog 180 #[ptrV B o,.func (.func 206) #[] #[.pointer (some ⟨r,0,none⟩),.pointer (some ⟨E,0,none⟩),.pointer (some ⟨d,0,none⟩)]] W (fun e w'=>∃b,e=.returned (.bool b)/\ZrT A B l es o n E d W w'):=by
 have U:=w.line o q;have ab:=R.lt;have ah:=Y.lt;have aj:r<W.heap.size:=World.block_lt_of_cell? W _ T;refine(Zia Q w.len w.lk _ _ (Zac func206 (by kernel_rfl) rfl) W.heap.size es.length o (Zan es o) U (w.mem U) (ZtA es o n E d W) (fun _=>ZrT A B l es o n E d W) W (Yad _)
  (fun k w' c=>D.trans (c.2.2.1.below D.size (fun i f=>by rcases f with c|c<;>omega))) (fun k am w2 c q=>?_) (fun k x w' N g=>?_) ⟨⟨_,R⟩,Y,Yak _ _,fun G x g=>by omega⟩).mono fun e w' aa=>?_
 ·obtain⟨⟨u,j⟩,h,on,a⟩:=c;exact⟨⟨u,j.keep q (by omega)⟩,h.keep q (by omega),on.then q (fun i f ag=>by omega),a⟩
 ·have C:(ZaC es o)[k]?=some x:=N;obtain⟨⟨u,j⟩,h,on,a⟩:=g;refine(ZoQ Q x (ZdQ w q x (Yaf C)) n w' (D.trans (on.below D.size (fun i f=>by rcases f with c|c<;>omega))) (P x) r E d u none (on.cell T (by rintro(c|c)<;>contradiction)) j h K).mono fun e ad aa=>?_;obtain⟨b,F,J,y⟩:=aa;cases b with
  |true=>
   obtain⟨m,p,L,X,I⟩:=J rfl;have V:=X;obtain⟨ao,al,v,rfl,_⟩:=X;obtain⟨O,M,t⟩:=I.boxes j h K;refine⟨⟨true,F,fun _=>⟨_,_,O,M,?_,on.trans t⟩,(fun c=>by cases c)⟩,t.mono (fun i _ f=>by rcases f with c|c<;>(show i<W.heap.size;omega))⟩;have H:Zbt es o n=some (x,m):=Zht C (fun G z g s=>by rw[a G z g s];rfl) (by rw[L];rfl);rw[H];exact⟨rfl,V⟩
  |false=>
   obtain⟨L,I⟩:=y rfl;obtain⟨O,M,t⟩:=I.boxes j h K;refine⟨⟨false,F,(fun c=>by cases c),fun _=>⟨⟨_,O⟩,M,on.trans t,fun G z g s=>?_⟩⟩,t.mono (fun i _ f=>by rcases f with c|c<;>(show i<W.heap.size;omega))⟩;rcases YaC G k with c|c
   ·exact a G z c s
   ·obtain rfl:G=k:=by omega
    rw[C]at s;rw[←Yac s];exact L
 ·obtain⟨b,F,J,y⟩:=aa;refine⟨b,F,?_⟩;cases b with
  |true=>
   obtain⟨_,_,c⟩:=J rfl;exact c
  |false=>
   obtain⟨⟨u,j⟩,h,on,a⟩:=y rfl;refine⟨u,none,j,h,?_,on⟩;have H:Zbt es o n=none:=by
    unfold Zbt;rw[List.findSome?_eq_none_iff];intro x N;obtain⟨G,g⟩:=YbF N;rw[a G x (Yag.1 g).1 g];rfl
   rw[H];exact rfl
theorem ZhG {A:Nat->Prop}{B:Nat->Nat}{X O:Nat}{es:List Ent}{j:World}(t:Tab A j X O B es)(D:Shape es)(l:∀i,(Zal es i).length<=9223372036854775807)(o:Option Nat)(y:∀i,o=some i->i<es.length)(n:List UInt8)
  (w:World)(g:Below j.heap.size j w):Calls prog 158 #[ptrV B o,.string (S n)] w (Zp4 A B j (Zbt es o n) w):=by
 have W:=Ymf;have p:Below w.heap.size w (((w.alloc (.cells #[.string (S n)] 9)).alloc (.cells #[.pointer none] 77)).alloc (.cells #[.pointer none] 148)):=Zaa (Zaa (Zaa (Yab _ _) _) _) _;have F:=(Box.new w #[.string (S n)] 9).below (w':=((w.alloc (.cells #[.string (S n)] 9)).alloc (.cells #[.pointer none] 77)).alloc (.cells #[.pointer none] 148)) (Zaa (Zaa (Yab _ _) _) _);have r:=(Box.new (w.alloc (.cells #[.string (S n)] 9)) #[.pointer none] 77).below (w':=((w.alloc (.cells #[.string (S n)] 9)).alloc (.cells #[.pointer none] 77)).alloc (.cells #[.pointer none] 148)) (Zaa (Yab _ _) _);have q:=Box.new ((w.alloc (.cells #[.string (S n)] 9)).alloc (.cells #[.pointer none] 77)) #[.pointer none] 148;have G:(w.alloc (.cells #[.string (S n)] 9)).heap.size=w.heap.size+1:=by simp
 have H:((w.alloc (.cells #[.string (S n)] 9)).alloc (.cells #[.pointer none] 77)).heap.size=w.heap.size+1+1:=by simp
 rw[G]at r;rw[H]at q;have z:=g.size;have d:=Hd (Zl7 t D l o y n w.heap.size (w.heap.size+1) (w.heap.size+1+1) _ (g.trans (p.mono g.size)) (F.cell 0 rfl) r q (by omega) (by omega) (by omega) (by omega) (by omega));obtain⟨Z,E⟩:=Zc0 B o;rw[E]at d⊢;have s:=Hd p;unfold ZrT at d;generalize Zbt es o n=aa at d⊢;clear t D l y g p F r q G H z E;go_enter func158,ntmps158
 go_upto_region 1 with fail;go_wp2_with fail;refine d.o.mono ?_;rintro e h⟨b,rfl,a,c,f,k,C,m⟩;have K:=Hd C;have T:=Hd f;have V:=Hd k;have J:Hid (Below w.heap.size w h):=Hd (s.o.trans (m.below (by have:=s.o.size;omega) (fun i P=>by rcases P with Y|Y<;>omega)));have U:=f.cell 0 rfl;have Q:=f.free 0;have N:=k.cell 0 rfl;have R:=k.free 0;clear C f k m d s;go_upto_region 2 with fail;go_region
 all_goals
  clear U Q N R;have M:=((T.o.set 0 (.pointer a)).set_ne (I:=w.heap.size+1+1) (by omega) 0 (.pointer c)).cell 0 rfl;have L:=((V.o.set_ne (I:=w.heap.size+1) (by omega) 0 (.pointer a)).set 0 (.pointer c)).cell 0 rfl;have x:Below w.heap.size w (((h.setCell ⟨w.heap.size+1,0,none⟩ (.pointer a)).setCell ⟨w.heap.size+1+1,0,none⟩ (.pointer c)).drew):=
   Zab ((J.o.setCell (by show w.heap.size<=w.heap.size+1;omega) _).setCell (by show w.heap.size<=w.heap.size+1+1;omega) _)
  have u:=Hd x;clear x;go_wp2;refine bodyPost_ret (v:=.tuple #[.pointer a,.pointer c]) ?_ rfl ⟨a,c,rfl,K.o,u.o⟩;have l1:=ZkX underlying77 (w:=(((h.setCell ⟨w.heap.size+1,0,none⟩ (.pointer a)).setCell ⟨w.heap.size+1+1,0,none⟩ (.pointer c)).drew)) M;have l2:=ZkX underlying148 (w:=(((h.setCell ⟨w.heap.size+1,0,none⟩ (.pointer a)).setCell ⟨w.heap.size+1+1,0,none⟩ (.pointer c)).drew)) L;simp only[results,results158];simp[asAddr,l1,l2]
def Cloned {α:Type}(n:Nat)(R:Zao α)(A:Nat->Prop)(lo:Nat)(w:World)(v:Value)(l:List α):Prop:=
 (l=[]/\∃a c,v=.slice a 0 c)\/
 ∃g c,v=.slice (some ⟨g,0,none⟩) l.length c/\lo<=g/\g<w.heap.size/\l.length<=c/\c<=9223372036854775807/\(∀m,w.frozen? ⟨g,m,none⟩=false)/\
  ∀(b:Nat) (x:α),l[b]?=some x->∃u,R A w x u/\u.cells.size=n/\∀(i:Nat) c,u.cells[i]?=some c->w.cell? ⟨g,b*n+i,none⟩=some c
section
variable {P:Program}{w:World}
theorem ZdS {α:Type}{n:Nat}(U:0<n){R:Zao α}(ak:Stays R){A:Nat->Prop}{sv:Value}{l:List α}(L:∀x v,R A w x v->∀u∈v.cells.toList,u.oneCell'=true)(t ty e:TypeId)(i:TypeInfo)(z:Value)(d:Nat)
  (V:P.underlying t=some (.slice e))(W:P.info? e=some i)(aj:i.zero=some z)(y:i.size=n)(O:i.bytes=d)(aa:z.cells.size=n)(aw:Src n R A w sv l)(I:l.length*d<=140737488355328)(ay:l.length<=9223372036854775807) :
  ∃r w',(Builtin.append_ #[t,t] ty #[.slice (some ⟨w.heap.size,0,none⟩) 0 0,sv]).run P (w.alloc (.cells #[] e))=.ok r w'/\Cloned n R A w.heap.size w' r l/\Below w.heap.size w w':=by
 have f:Below w.heap.size w (w.alloc (.cells #[] e)):=(Yab _ w).alloc (Yad _) _;have q:(w.alloc (.cells #[] e)).ownsRow 0 e n (.slice (some ⟨w.heap.size,0,none⟩) 0 0) 0 []:=
  ⟨by simp,.inr ⟨w.heap.size,0,#[],rfl,Yao _,heap_alloc_new w _,Yad _,Yao _,by simp,by simp⟩⟩
 rcases aw with⟨av,ap,rfl,rfl⟩|⟨b,o,Z,rfl,_,au⟩
 ·exact⟨_,_,Zbf _ t ty e i n V W _ 0 [] q av ap,.inl ⟨rfl,_,_,rfl⟩,f⟩
 ·have aq:=Yae (S:=fun _=>False) f;obtain⟨a,X,C⟩:=Src.vals au;have p:∀u∈a,u.cells.size=n:=fun u al=>by
   obtain⟨k,s⟩:=YbF al;obtain⟨_,_,_,aB,_⟩:=C k u s;exact aB
  have af:(ZaO a).length=l.length*n:=by rw[ZcE a p,X]
  have B:=Src.cells a C U;have am:∀u∈ZaO a,u.oneCell'=true:=fun M h=>by
   unfold ZaO at h;obtain⟨u,N,ab⟩:=YbD.1 h;obtain⟨k,s⟩:=YbF N;obtain⟨x,_,E,_,_⟩:=C k u s;exact L x u E M ab
  obtain⟨r,w',ar,K,ae⟩:=Zbw (P:=P) (w.alloc (.cells #[] e)) t ty e i z n d V W aj y O aa U _ 0 [] q ⟨b,o,none⟩ l.length Z (ZaO a) af (fun D M h=>aq.cell (B D M h) id) am (by unfold maxLen;omega) (by rw[Ya6];exact I);rw[Ya6,Ybq]at K;have H:Below w.heap.size w w':=f.trans (ae.only.below f.size (fun k s=>by simp[Value.ownBlock]at s;omega));refine⟨r,w',ar,?_,H⟩;have ac:∀g,r.ownBlock=some g->w.heap.size<=g:=fun g j=>by
   rcases ae.came with J|J
   ·rw[J]at j;simp[Value.ownBlock]at j;omega
   ·have aC:=J g j;have aA:=f.size;omega
  rcases K.2 with⟨ao,ai⟩|⟨g,c,az,rfl,_,j,ag,ad,ax,ah⟩
  ·exact .inl ⟨Ya0.1 ai,_,_,ao⟩
  ·refine .inr ⟨g,c,rfl,ac g rfl,lt_of_block j,ag,ad,fun m=>?_,fun D x E=>?_⟩
   ·unfold World.frozen?;rw[j];simp
   ·have aD:D<l.length:=(Yag.1 E).1;have G:a[D]?=some a[D]:=Yaa (by omega);obtain⟨aE,Q,Y,F,_⟩:=C D _ G;rw[E]at Q;obtain rfl:=Yac Q;refine⟨a[D],ak.keep Y (Yae (S:=fun _=>False) H) (fun _ _=>id),F,fun M c h=>?_⟩;have T:=Zc7 F h;have:=K.cells (g:=g) rfl (D*n+M) c (by rw[ZcP a D M _ p G T];exact h);rw[Ybn,Ya6]at this;exact this
end
noncomputable def setRow (w:World)(g o:Nat):List Value->World
 |[]=>w
 |c::r=>setRow (w.setCell ⟨g,o,none⟩ c) g (o+1) r
theorem ZbN {S:Nat->Prop}{a:World}:∀(b:List Value) (w:World) (g o:Nat),Only S a w->S g->Only S a (setRow w g o b)
 |[],_,_,_,h,_=>h
 |c::r,_,g,o,h,hg=>ZbN r _ g (o+1) (h.setCell (p:=⟨g,o,none⟩) hg c) hg
theorem Zfa:∀(a:List Value) (w:World) (g o m:Nat) (v:Value),w.cell? ⟨g,m,none⟩=some v->(m<o\/o+a.length<=m)->(setRow w g o a).cell? ⟨g,m,none⟩=some v
 |[],_,_,_,_,_,h,_=>h
 |c::r,w,g,o,m,v,h,hm=>by
  unfold setRow;simp only[YaI]at hm;refine Zfa r _ g (o+1) m v ?_ (by omega);rw[World.cell?_setCell_other w ⟨g,o,none⟩ ⟨g,m,none⟩ c (by intro e;injection e with _ e;omega)];exact h
theorem Zjf:∀(b:List Value) (w:World) (g o i:Nat) (u:Value),(∀m,m<b.length->∃v,w.cell? ⟨g,o+m,none⟩=some v)->b[i]?=some u->(setRow w g o b).cell? ⟨g,o+i,none⟩=some u
 |[],_,_,_,i,_,_,hi=>by simp at hi
 |c::r,w,g,o,0,u,hw,hi=>by
  simp at hi;subst hi;unfold setRow;refine Zfa r _ g (o+1) (o+0) c ?_ (by omega);obtain⟨v,a⟩:=hw 0 (by simp);exact World.cell?_setCell_same w _ _ a
 |c::r,w,g,o,i+1,u,hw,hi=>by
  unfold setRow;have:=Zjf r (w.setCell ⟨g,o,none⟩ c) g (o+1) i u (fun m d=>by
   obtain⟨v,a⟩:=hw (m+1) (by simp;omega);refine⟨v,?_⟩;rw[World.cell?_setCell_other w ⟨g,o,none⟩ ⟨g,o+1+m,none⟩ c (by intro e;injection e with _ e;omega),show o+1+m=o+(m+1)from by omega];exact a) (by simpa using hi)
  rw[show o+(i+1)=o+1+i from by omega];exact this
theorem ZeW:∀(b:List Value) (w:World) (g o:Nat) (a:Addr),(setRow w g o b).frozen? a=w.frozen? a
 |[],_,_,_,_=>rfl
 |c::r,w,g,o,a=>by
  unfold setRow;rw[ZeW r _ g (o+1) a];exact World.frozen?_setCell _ _ _ _
structure CInv {α:Type} (n:Nat) (R:Zao α) (lo g k:Nat) (w:World) (l:List α):Prop where
 lt:g<w.heap.size
 ge:lo<=g
 free:∀m,w.frozen? ⟨g,m,none⟩=false
 at_:∀(j:Nat) (x:α),l[j]?=some x->∃u,(if j<k then R (fun i=>lo<=i/\i≠g) w x u else R (fun i=>i<lo) w x u)/\u.cells.size=n/\∀(i:Nat) c,u.cells[i]?=some c->w.cell? ⟨g,j*n+i,none⟩=some c
theorem CInv.only {α:Type}{n:Nat}{R:Zao α}(h:Stays R){lo g k:Nat}{w w':World}{l:List α}(j:CInv n R lo g k w l)(d:Below w.heap.size w w'):CInv n R lo g k w' l:=by
 have f:=Yae (S:=fun _=>False) d;refine⟨Ya7 j.lt d.size,j.ge,fun m=>?_,fun v x r=>?_⟩
 ·rw[d.frozen (p:=⟨g,m,none⟩) j.lt];exact j.free m
 ·obtain⟨u,b,t,s⟩:=j.at_ v x r;refine⟨u,?_,t,fun i c q=>f.cell (s i c q) id⟩;split
  ·rename_i a;rw[Yay a]at b;exact h.keep b f (fun _ _=>id)
  ·rename_i a;rw[Yar a]at b;exact h.keep b f (fun _ _=>id)
theorem CInv.elem {α:Type}{n:Nat}{R:Zao α}{lo g k:Nat}{w:World}{l:List α}{x:α}(h:CInv n R lo g k w l)(b:l[k]?=some x):∃u,R (fun i=>i<lo) w x u/\u.cells.size=n/\∀(i:Nat) c,u.cells[i]?=some c->w.cell? ⟨g,k*n+i,none⟩=some c:=by
 obtain⟨u,a,f,d⟩:=h.at_ k x b;rw[Yar (Nat.lt_irrefl k)]at a;exact⟨u,a,f,d⟩
theorem CInv.store {α:Type}{n:Nat}{R:Zao α}(a:Stays R){lo g k:Nat}{w w':World}{l:List α}{x:α}{u:Value}(y:CInv n R lo g k w l)(E:Below w.heap.size w w')(G:l[k]?=some x)
  (F:R (fun i=>w.heap.size<=i) w' x u)(D:u.cells.size=n):CInv n R lo g (k+1) (setRow w' g (k*n) u.cells.toList) l:=by
 have s:=y.only a E;have f:Only (fun i=>i=g) w' (setRow w' g (k*n) u.cells.toList):=ZbN _ _ _ _ (Yak _ _) rfl;have t:u.cells.toList.length=n:=by rw[Yby,D]
 refine⟨Ya7 s.lt f.size,y.ge,fun m=>by rw[ZeW];exact s.free m,fun p K q=>?_⟩;obtain⟨v,d,r,B⟩:=s.at_ p K q;by_cases z:p=k
 ·subst z;rw[G]at q;obtain rfl:=Yac q;refine⟨u,?_,D,fun i c h=>?_⟩
  ·rw[Yay (Nat.lt_succ_self p)];have I:=y.lt;have A:=y.ge;exact a.keep (a.mono F (fun i _ b=>show lo<=i/\i≠g from⟨by omega,by omega⟩)) f (fun i b=>b.2)
  ·refine Zjf u.cells.toList w' g (p*n) i c (fun m J=>?_) (by rw[Yca];exact h);have C:m<v.cells.size:=by rw[r];omega
   exact⟨_,B m v.cells[m] (YbZ C)⟩
 ·refine⟨v,?_,r,fun i c h=>?_⟩
  ·by_cases j:p<k
   ·rw[Yay j]at d;rw[Yay (by omega)];exact a.keep d f (fun i b=>b.2)
   ·rw[Yar j]at d;rw[Yar (by omega)];have A:=y.ge;exact a.keep d f (fun i (b:i<lo) (L:i=g)=>by omega)
  ·have H:=Zc7 r h;refine Zfa _ _ _ _ _ _ (B i c h) ?_;rw[t];rcases YaC p k with j|j
   ·left;have:=YcB n (show p+1<=k by omega);rw[Nat.succ_mul]at this;omega
   ·right;have:=YcB n (show k+1<=p by omega);rw[Nat.succ_mul]at this;omega
theorem CInv.done {α:Type}{n:Nat}{R:Zao α}(d:Stays R){lo g c:Nat}{w:World}{l:List α}(r:CInv n R lo g l.length w l)(f:l.length<=c)(m:c<=9223372036854775807):Src n R (fun i=>lo<=i) w (.slice (some ⟨g,0,none⟩) l.length c) l:=by
 refine .inr ⟨g,0,c,rfl,⟨r.ge,r.lt,f,m⟩,fun k x a=>?_⟩;obtain⟨u,b,q,p⟩:=r.at_ k x a;rw[Yay (Yag.1 a).1]at b;exact⟨u,d.mono b (fun i _ h=>h.1),q,fun s v j=>by rw[Ya6];exact p s v j⟩
theorem Cloned.inv {α:Type}{n:Nat}{R:Zao α}{lo g:Nat}{w:World}{l:List α}(d:lo<=g)(a:g<w.heap.size)(k:∀m,w.frozen? ⟨g,m,none⟩=false)
  (p:∀(b:Nat) (x:α),l[b]?=some x->∃u,R (fun i=>i<lo) w x u/\u.cells.size=n/\∀(i:Nat) c,u.cells[i]?=some c->w.cell? ⟨g,b*n+i,none⟩=some c):CInv n R lo g 0 w l:=
 ⟨a,d,k,fun b x h=>by obtain⟨u,f,j⟩:=p b x h;exact⟨u,by rw[Yar (YbN b)];exact f,j⟩⟩
