/- laws -/
import Derived.Test.YtegljjbclladdaaGreatDoorK21
set_option maxRecDepth 100000
set_option maxHeartbeats 16000000
namespace Go.Proofs.YtegljjbclladdaaGreatDoor
open Go.RowKit Tryz
def ZcB (es:List Ent)(i:Nat):Bool:=match es[i]? with|some e=>e.cls.itf|none=>false
def ZfV (es:List Ent)(i:Nat):Bool:=match es[i]? with|some e=>e.cls.fin|none=>false
def upE (es:List Ent)(n:List UInt8):Option Nat:=match Zad es n with|some a=>if(ZcB es a || ZfV es a)=true then none else some a|none=>none
def Zcp (es:List Ent)(n:List UInt8):Option Nat:=match Zad es n with|some a=>if ZcB es a=true then some a else none|none=>none
def ZaH (es:List Ent)(l:List (List UInt8)):Bool:=l.all fun n=>(Zcp es n).isSome
def ZbI (es:List Ent)(l:List (List UInt8)):List Nat:=l.map fun n=>(Zcp es n).getD 0
theorem ZeL {es:List Ent}{i:Nat}{e:Ent}(a:es[i]?=some e):ZcB es i=e.cls.itf:=by unfold ZcB;rw[a]
theorem Zhs {es:List Ent}{i:Nat}{e:Ent}(a:es[i]?=some e):ZfV es i=e.cls.fin:=by unfold ZfV;rw[a]
theorem Zjo {es:List Ent}{n:List UInt8}{c:Nat}(a:upE es n=some c):Zad es n=some c/\c<es.length:=by
 unfold upE at a;cases b:Zad es n with
 |none=>rw[b]at a;cases a
 |some i=>
  rw[b]at a;dsimp only at a;split at a
  ·cases a
  ·obtain rfl:=Yac a;exact⟨rfl,ZaV b⟩
theorem ZqO {es:List Ent}{n:List UInt8}{c:Nat}(a:Zcp es n=some c):c<es.length:=by
 unfold Zcp at a;cases b:Zad es n with
 |none=>rw[b]at a;cases a
 |some i=>
  rw[b]at a;dsimp only at a;split at a
  ·obtain rfl:=Yac a;exact ZaV b
  ·cases a
theorem ZiQ {es:List Ent}{l:List (List UInt8)}(g:ZaH es l=true):∀f∈ZbI es l,f<es.length:=by
 intro f d;obtain⟨n,c,rfl⟩:=Ya2.1 d;have b:=YaF.1 g n c;obtain⟨i,a⟩:=YaL.1 b;rw[a];exact ZqO a
theorem ZmP {es:List Ent}{i:Nat}{e a:Ent}(d:es[i]?=some e)(c:a.cls.name=e.cls.name)(n:List UInt8):Zad (es.set i a) n=Zad es n:=by
 unfold Zad;induction es generalizing i with
 |nil=>rfl
 |cons x l b=>
  cases i with
  |zero=>
   obtain rfl:=Yac d;rw[Ybu,YbH,YbH,c]
  |succ i=>
   rw[YbC,YbH,YbH,b (i:=i) (by simpa using d)]
theorem ZoM {es:List Ent}{i:Nat}{e a:Ent}(c:es[i]?=some e)(b:a.cls.name=e.cls.name):Zfp (es.set i a)=Zfp es:=by
 funext k
 cases k<;>first|rfl|exact ZmP c b _
theorem Tb.link {s:Nat}{w w':World}{z r:Nat}{B:Nat->Nat}{es:List Ent}{i:Nat}{e j:Ent}(g:Tb s w z r B es i)(y:es[i]?=some e)(G:j.cls.name=e.cls.name)(q:Only (fun k=>k=B i) w w')
  (H:EntIs (offT s z r B es.length) B w' i j)(D:∀n,j.up=some n->n<es.length)(I:∀n∈j.lk,n<es.length):Tb s w' z r B (es.set i j) (i+1):=by
 have h:=(Yag.1 y).1;have d:(es.set i j).length=es.length:=YbT;have l:∀(k:Nat) (x:Ent),(es.set i j)[k]?=some x->(k=i/\x=j)\/(k≠i/\es[k]?=some x):=fun k x c=>by
  by_cases f:k=i
  ·subst f;rw[Ybx h]at c;exact .inl ⟨rfl,(Yac c).symm⟩
  ·rw[Ybw (fun v=>f v.symm)]at c;exact .inr ⟨f,c⟩
 have t:∀k,k<es.length->k≠i->B k≠B i:=fun k c f e=>f (g.tab.inj k i c h e);have p:∀(k:Nat) (x:Ent),k≠i->es[k]?=some x->EntIs (offT s z r B es.length) B w' k x:=fun k x f c=>
  (g.tab.ent k x c).keep q (fun b u (v:b=B i)=>u.2.2.2 i h v) (t k (Yag.1 c).1 f)
 refine⟨?_,g.tT,g.tM,fun k c=>g.tB k (d▸c),fun k x n c m=>?_,fun k x n c m=>?_,fun k x J c=>?_⟩
 ·rw[d];refine⟨g.tab.box.keep q (fun v=>g.tab.offT i h v.symm),?_,fun k x c=>?_,fun a b F u=>g.tab.inj a b (d▸F) (d▸u),fun k c=>g.tab.offA k (d▸c),fun k c=>g.tab.offT k (d▸c),fun k c=>g.tab.offM k (d▸c),g.tab.T_A,g.tab.M_A,g.tab.T_M⟩
  ·rw[d,ZoM y G];exact g.tab.map.keep q (fun v=>g.tab.offM i h v.symm)
  ·rcases l k x c with⟨rfl,rfl⟩|⟨f,c⟩
   ·exact H
   ·exact p k x f c
 ·rw[d];rcases l k x c with⟨rfl,rfl⟩|⟨f,c⟩
  ·exact D n m
  ·exact g.up k x n c m
 ·rw[d];rcases l k x c with⟨rfl,rfl⟩|⟨f,c⟩
  ·exact I n m
  ·exact g.lk k x n c m
 ·rcases l k x c with⟨rfl,rfl⟩|⟨f,c⟩
  ·omega
  ·obtain⟨C,A,E⟩:=g.raw k x (by omega) c;exact⟨C,A,q.cell E (t k (Yag.1 c).1 f)⟩
def Ztz (s d a:Nat)(B:Nat->Nat)(es:List Ent)(i:Nat)(c:Cls)(w:World)(e:Ending)(w':World):Prop:=
 (upE es c.sup=none->e=.returned (.int .i64 61)/\Below w.heap.size w w')/\
 ((upE es c.sup).isSome=true->ZaH es c.like=false->e=.returned (.int .i64 62)/\Only (fun k=>k=B i) w w')/\
 (∀b,upE es c.sup=some b->ZaH es c.like=true->e=.returned (.int .i64 0)/\Only (fun k=>k=B i) w w'/\Tb s w' d a B (es.set i ⟨c,some b,ZbI es c.like⟩) (i+1))
theorem ZeJ:(prog.info? 77).map (fun i=>(i.zero,i.size,i.bytes))=some (some (.pointer none),1,8):=by kernel_rfl
structure Lk (w:World) (B:Nat->Nat) (i:Nat) (c:Cls) (j:Nat) (lv fv mv:Value) (sv:Value) (lk:List Nat) (us:List Value) (W:World):Prop where
 box:Box W (B i) (entC B i ⟨c,some j,lk⟩ lv fv mv sv) 80
 row:TRow 1 77 (EntP B) w.heap.size W sv lk us
 only:Only (fun k=>k=B i) w W
theorem ZiR {es:List Ent}{l:List (List UInt8)}{k:Nat}{n:List UInt8}(a:l[k]?=some n)(c:ZaH es (l.take k)=true)(b:(Zcp es n).isSome=true):ZaH es (l.take (k+1))=true:=by
 rw[YaK,a];unfold ZaH at c⊢;rw[Yct,c];simp[b]
theorem Zj3 {es:List Ent}{l:List (List UInt8)}{k:Nat}{n:List UInt8}{c:Nat}(a:l[k]?=some n)(b:Zcp es n=some c):ZbI es (l.take (k+1))=ZbI es (l.take k)++[c]:=by
 rw[YaK,a];unfold ZbI;rw[Ya9];simp[b]
theorem Zf7 {es:List Ent}{l:List (List UInt8)}{k:Nat}{n:List UInt8}(a:l[k]?=some n)(b:Zcp es n=none):ZaH es l=false:=by
 unfold ZaH;rw[Yb4];exact⟨n,Yaf a,by rw[b];decide⟩
theorem ZkW {A:Nat->Prop}{s ba K:Nat}{B:Nat->Nat}{es:List Ent}{i:Nat}(c:Cls)(v:Value)(w:World)(bW:Tb s w ba K B es i)(bh:s<=w.heap.size)(aX:es[i]?=some ⟨c,none,[]⟩)(au:Zad es c.name=some i)
  (bJ:ClsR A w c v)(bA:∀k,A k->k≠B i)(aK:c.Small)(az:es.length<=1048576) :
  Calls prog 24 #[.pointer (some ⟨ba,0,none⟩),v] w (Ztz s ba K B es i c w):=by
 obtain⟨b6,b7,b5,rfl,aY,bj,bd⟩:=bJ;obtain⟨lo,ax,rfl⟩:=aY.shape;obtain⟨a1,fc,rfl⟩:=bj.shape;obtain⟨a2,aV,rfl⟩:=bd.shape;have G:=(Yag.1 aX).1;have bm:=Hd aY;have bQ:=Hd bA;have H:=Hd aK;have aB:=Hd aX;have h:=Hd bW;have bI:=Hd az;have bq:=Hd bh;have aE:Below w.heap.size w (w.alloc (.cells #[.string (S c.name),.string (S c.sup),.slice lo c.like.length ax,.bool c.itf,.bool c.abs,.bool c.fin,.slice a1 c.flds.length fc,.slice a2 c.mths.length aV] 70)):=(Yab _ w).alloc (Yad _) _;have M:=Hd (Box.new w #[.string (S c.name),.string (S c.sup),.slice lo c.like.length ax,.bool c.itf,.bool c.abs,.bool c.fin,.slice a1 c.flds.length fc,.slice a2 c.mths.length aV] 70);have E:=Hd aE;clear aE aY bj bd bA aK aX bW az;go_enter func24,ntmps24
 go_upto_region 1 with fail;obtain⟨J,aR⟩:∃J,J=w.alloc (.cells #[.string (S c.name),.string (S c.sup),.slice lo c.like.length ax,.bool c.itf,.bool c.abs,.bool c.fin,.slice a1 c.flds.length fc,.slice a2 c.mths.length aV] 70):=⟨_,rfl⟩
 rw[←aR]at M E⊢;clear aR;have aU:Below J.heap.size J J:=Yab _ _;have P:c.name.length<=9223372036854775807:=by have:=H.o.name;omega
 have aQ:c.sup.length<=9223372036854775807:=by have:=H.o.sup;omega
 have aD:Hid (∀W,Below J.heap.size J W->W.cell? ⟨ba,0,none⟩=some (.map (some K))/\W.cell? ⟨w.heap.size,0,none⟩=some (.string (S c.name))/\W.cell? ⟨w.heap.size,1,none⟩=some (.string (S c.sup))/\
   (Instr.lookup 62 (.map (some K)) (.string (S c.name)) false).run prog W=.ok (.pointer (some ⟨B i,0,none⟩)) W/\
   (Instr.lookup 62 (.map (some K)) (.string (S c.sup)) false).run prog W=.ok (ptrV B (Zad es c.sup)) W):=Hd (fun W a4=>by
  have aT:=h.o.below (E.o.trans (a4.mono E.o.size));refine⟨aT.tab.box.cell 0 rfl,(M.o.below a4).cell 0 rfl,(M.o.below a4).cell 1 rfl,?_,aT.tab.look c.sup aQ⟩;have:=aT.tab.look c.name P;rw[au]at this;exact this)
 have b3:=Hd au;clear P aQ au;obtain⟨q,d⟩:=Zc0 B (Zad es c.sup);rw[d]at aD;have bB:=Hd d;clear d;obtain⟨bN,bK,bR,bL,bT⟩:=aD.o J aU;first
 |(go_region_held (fun W=>W.cell? ⟨ba,0,none⟩=some (.map (some K))/\W.cell? ⟨w.heap.size,0,none⟩=some (.string (S c.name))/\W.cell? ⟨w.heap.size,1,none⟩=some (.string (S c.sup))/\
   (Instr.lookup 62 (.map (some K)) (.string (S c.name)) false).run prog W=.ok (.pointer (some ⟨B i,0,none⟩)) W/\
   (Instr.lookup 62 (.map (some K)) (.string (S c.sup)) false).run prog W=.ok (.pointer q) W)
   ((refine aD.o _ ?_;(with_reducible repeat (first|exact Yab _ _|assumption|refine Zab ?_)))) (fail))
 |fail
 all_goals
  clear bN bK bR bL bT;have av:=Zab aU;have y:=Hd (E.o.trans (av.mono E.o.size));have aG:=Hd (M.o.below av);clear aU av aD M E;generalize J.drew=ay at y aG⊢;have d:=bB.o;cases l:Zad es c.sup with
  |none=>
   have C:upE es c.sup=none:=by unfold upE;rw[l]
   rw[l,Zdx]at d;obtain rfl:=Value.pointer.inj d;go_wp2;go_ret;exact⟨fun _=>⟨rfl,y.o⟩,fun a _=>(by rw[C]at a;cases a),fun z a _=>(by rw[C]at a;cases a)⟩
  |some z=>
   rw[l,Zbv]at d;obtain rfl:=Value.pointer.inj d;have Z:=ZaV l;obtain⟨m,Q⟩:∃m,es[z]?=some m:=⟨_,Yaa Z⟩
   obtain⟨_,_,_,_,ao,_,_,_,_⟩:=(h.o.below y.o).tab.ent z m Q;have L:ay.cell? ⟨B z,4,none⟩=some (.bool m.cls.itf):=ao.cell 4 rfl;have aW:ay.cell? ⟨B z,6,none⟩=some (.bool m.cls.fin):=ao.cell 6 rfl;clear ao;by_cases I:(m.cls.itf || m.cls.fin)=true
   ·have C:upE es c.sup=none:=by unfold upE;rw[l];dsimp only;rw[ZeL Q,Zhs Q,Yay I]
    cases g:m.cls.itf with
    |true=>
     rw[g]at L;go_wp2;go_ret;exact⟨fun _=>⟨rfl,y.o⟩,fun a _=>(by rw[C]at a;cases a),fun z a _=>(by rw[C]at a;cases a)⟩
    |false=>
     have ad:m.cls.fin=true:=by rw[g]at I;simpa using I
     rw[g]at L;rw[ad]at aW;go_wp2;go_ret;exact⟨fun _=>⟨rfl,y.o⟩,fun a _=>(by rw[C]at a;cases a),fun z a _=>(by rw[C]at a;cases a)⟩
   ·have C:upE es c.sup=some z:=by unfold upE;rw[l];dsimp only;rw[ZeL Q,Zhs Q,Yar I]
    have T:(m.cls.itf || m.cls.fin)=false:=by simpa using I
    have g:m.cls.itf=false:=(Ybv.1 T).1;have ad:m.cls.fin=false:=(Ybv.1 T).2;rw[g]at L;rw[ad]at aW;have ar:=Hd C;clear I T g ad C d bB;obtain⟨U,ah,ai,bk,ak,bo,N,bi,_⟩:=h.o.tab.ent i _ aB.o;have am:=(h.o.raw i _ (Yad _) aB.o).2.2;obtain rfl:bk=.slice none 0 0:=Yac ((ak.cell 10 rfl).symm.trans am);have af:=ak.below y.o;have bO:ay.cell? ⟨B i,9,none⟩=some (.pointer none):=af.cell 9 rfl;have bc:=af.free 9;have O:Lk w B i c z U ah ai (.slice none 0 0) [] [] (ay.setCell ⟨B i,9,none⟩ (.pointer (some ⟨B z,0,none⟩)))/\(ay.setCell ⟨B i,9,none⟩ (.pointer (some ⟨B z,0,none⟩))).cell? ⟨w.heap.size,2,none⟩=some (.slice lo c.like.length ax):=
     ⟨⟨af.set 9 (.pointer (some ⟨B z,0,none⟩)),TRow.nil _ _,(Yae (S:=fun k=>k=B i) y.o).setCell (p:=⟨B i,9,none⟩) rfl (.pointer (some ⟨B z,0,none⟩))⟩,
      (aG.o.set_ne (by have:=h.o.tab.lt G;omega) 9 _).cell 2 rfl⟩
    have bC:=Hd bo;have bx:=Hd N;have bn:=Hd bi;clear af ak bo N bi am;go_upto_region 5 with fail;refine Zau (fun W=>Lk w B i c z U ah ai (.slice none 0 0) [] [] W/\W.cell? ⟨w.heap.size,2,none⟩=some (.slice lo c.like.length ax)) O ?_;rintro W2⟨aI,bE⟩;have bs:=Hd aI;clear O aI bO bc L aW;obtain⟨aM,aC⟩:∃aM,aM=c.like.length:=⟨_,rfl⟩
    rw[←aC]at bE bm;have R:=Hd aC;have bZ:aM<=1048576:=by rw[aC];exact H.o.n1
    clear aC;go_wp2_with fail;have aL:Hid (B i<w.heap.size):=Hd (h.o.tab.lt G);obtain⟨bG,bu,bf,bD,br⟩:=info_parts ZeJ;clear bE l bh;go_loopw [47] (fun al wr=>∃(k:Nat) (sv:Value) (bv:List Value),k<=aM/\al=.int .i64 k/\ZaH es (c.like.take k)=true/\Lk w B i c z U ah ai sv (ZbI es (c.like.take k)) bv wr) (fun al _=>aM-(intOf al).toNat)
    case atStart=>exact⟨0,_,_,Yao _,rfl,rfl,bs.o⟩
    case round=>
     obtain⟨k,sv,bv,bP,rfl,aP,O⟩:=hrel;have ac:=Hd aP;have f:=Hd O;clear aP O;by_cases bX:k<aM
     ·obtain⟨n,aA⟩:∃n,c.like[k]?=some n:=⟨_,Yaa (by have:=R.o;omega)⟩
      have V:=Hd aA;have P:n.length<=9223372036854775807:=by have:=H.o.like n (Yaf aA);omega
      obtain⟨b,o,b9,rfl,bl,_,aS⟩:=Src.elem (StrR.st.src bm.o f.o.only (fun b bF=>bQ.o b bF)) k n aA;obtain rfl:=bl;have bU:wr.cell? ⟨b,o+k,none⟩=some (.string (S n)):=by have q:=aS 0 _ rfl;rw[YaH]at q;exact q
      clear aS aA;have bM:=(h.o.tab.box.keep f.o.only (fun q=>h.o.tab.offT i G q.symm)).cell 0 rfl;have t:=(h.o.tab.map.keep f.o.only (fun q=>h.o.tab.offM i G q.symm)).look Zbb underlying62 (Zlk wr) (ZcT n P);rw[show ptrV B (Zfp es (.string n))=ptrV B (Zad es n)from rfl]at t;have b2:(0:Int)<=(k:Int):=by omega
      have b0:(k:Int)<(aM:Int):=by omega
      clear P;cases l:Zad es n with
      |none=>
       rw[l,Zdx]at t;have F:Zcp es n=none:=by unfold Zcp;rw[l]
       go_wp2;go_ret;exact⟨fun a=>(by rw[ar.o]at a;cases a),fun _ _=>⟨rfl,f.o.only⟩,fun z a D=>(by rw[Zf7 V.o F]at D;cases D)⟩
      |some j=>
       rw[l,Zbv]at t;have Z:=ZaV l;obtain⟨N,aa⟩:∃N,es[j]?=some N:=⟨_,Yaa Z⟩
       have L:wr.cell? ⟨B j,4,none⟩=some (.bool N.cls.itf):=by
        by_cases aq:j=i
        ·subst aq;obtain rfl:=Yac (aa.symm.trans aB.o);exact f.o.box.cell 4 rfl
        ·obtain⟨_,_,_,_,bw,_,_,_,_⟩:=h.o.tab.ent j N aa;exact f.o.only.cell (bw.cell 4 rfl) (fun q=>aq (h.o.tab.inj j i Z G q))
       cases g:N.cls.itf with
       |false=>
        rw[g]at L;have F:Zcp es n=none:=by unfold Zcp;rw[l];dsimp only;rw[ZeL aa,g];rfl
        go_wp2;go_ret;exact⟨fun a=>(by rw[ar.o]at a;cases a),fun _ _=>⟨rfl,f.o.only⟩,fun z a D=>(by rw[Zf7 V.o F]at D;cases D)⟩
       |true=>
        rw[g]at L;have F:Zcp es n=some j:=by unfold Zcp;rw[l];dsimp only;rw[ZeL aa,g];rfl
        have aO:=Hd F;clear F g l;have r:(ZbI es (c.like.take k)).length=k:=by unfold ZbI;rw[YaB,YaA];have:=R.o;omega
        have a9:=f.o.row;obtain⟨a3,a7,rfl⟩:=a9.shape;have aN:=Hd r;have aJ:wr.cell? ⟨B i,10,none⟩=some (.slice a3 (ZbI es (c.like.take k)).length a7):=f.o.box.cell 10 rfl;rw[r]at aJ;have ap:Below wr.heap.size wr (wr.alloc (.cells #[.pointer (some ⟨B j,0,none⟩)] 77)):=(Yab _ wr).alloc (Yad _) _;have Y:=Hd (a9.below (EntP.st B) ap);have bp:=Hd (Box.new wr #[.pointer (some ⟨B j,0,none⟩)] 77);have bb:=Hd (f.o.box.below ap);have aF:=Hd Y.o.row;rw[r]at aF;have aH:=Hd (f.o.only.alloc (.cells #[.pointer (some ⟨B j,0,none⟩)] 77));clear ap a9 r;go_wp2_with (at_builtin;refine Zbo _ rfl _ _ 71 rfl 77 bG (.pointer none) 1 8 underlying71 bu bf bD br rfl (by decide) _ _ _ rfl aF.o ⟨wr.heap.size,0,none⟩ 1 1 [.pointer (some ⟨B j,0,none⟩)] rfl rfl (by intro z q bS;rw[Ybn,Ya6];exact bp.o.cell z (by rw[←bS];simp)) (by intro q d;simp at d;rcases d with rfl;rfl) ?c3 ?c4 ?_)
        case c3=>unfold maxLen;have:=R.o;have:=H.o.n1;omega
        case c4=>have:=R.o;have:=H.o.n1;omega
        intro bH a6 aj ae;have ag:Grew (wr.alloc (.cells #[.pointer (some ⟨B j,0,none⟩)] 77)) (.slice a3 (ZbI es (c.like.take k)).length a7) a6 bH:=by rw[aN.o];exact ae
        have ab:=Y.o.snoc (EntP.st B) ag aH.o.size (x:=j) (u:=.pointer (some ⟨B j,0,none⟩)) rfl rfl (by rw[aN.o];exact aj);rw[←Zj3 V.o aO.o]at ab;have X:=bb.o.keep ag.only (fun q=>by have a:=Y.o.own _ q;have D:=aL.o;omega);have aw:=aH.o.then ag.only (fun k bP q=>by have a:=Y.o.own _ q;omega);have c3:a6.cell? ⟨B i,10,none⟩=some (.slice a3 (ZbI es (c.like.take k)).length a7):=X.cell 10 rfl;have b8:=X.free 10;obtain⟨bY,b4,rfl⟩:=ab.shape;have bz:=Hd X;have aZ:=Hd aw;have bt:=Hd ab;have a0:=Hd (ZiR V.o ac.o (by rw[aO.o];rfl));clear ab ae aj ag X aw aJ L bM t bU;go_wp2;go_roundw
        case rel=>exact⟨k+1,_,_,by omega,by go_num,a0.o,⟨bz.o.set 10 _,bt.o.past (EntP.st B) ((Yak (fun k=>k=B i) a6).setCell (p:=⟨B i,10,none⟩) rfl _) (fun q d e=>by have D:=aL.o;omega),aZ.o.setCell (S:=fun k=>k=B i) (p:=⟨B i,10,none⟩) rfl _⟩⟩
        case measure=>simp[intOf];omega
     ·obtain rfl:k=aM:=by omega
      have a5:c.like.take k=c.like:=Yaz (by rw[R.o];exact Yad _);rw[a5]at ac f;go_wp2;go_ret;refine⟨fun a=>(by rw[ar.o]at a;cases a),fun _ D=>(by rw[ac.o]at D;cases D),fun j a _=>⟨rfl,f.o.only,?_⟩⟩;obtain rfl:z=j:=Yac (ar.o.symm.trans a);have a8:∀q,offT s ba K B es.length q->¬q=B i:=fun q d e=>d.2.2.2 i G e;refine h.o.link aB.o rfl f.o.only ⟨U,ah,ai,_,f.o.box,StrR.st.src bC.o f.o.only a8,FldR.st.src bx.o f.o.only a8,MthR.st.src bn.o f.o.only a8,?_⟩ (fun q d=>?_) (ZiQ ac.o)
      ·refine(EntP.st B).srcMono (f.o.row.src (EntP.st B)) (fun q b1 d=>⟨?_,?_,?_,?_⟩)
       ·exact Yaj bq.o d
       ·have:=h.o.tab.box.lt;have bg:w.heap.size<=q:=d;omega
       ·have:=h.o.tab.map.lt;have bg:w.heap.size<=q:=d;omega
       ·intro x bV;have:=h.o.tab.lt bV;have bg:w.heap.size<=q:=d;omega
      ·obtain rfl:z=q:=Yac d;exact(Zjo ar.o).2
def startL:List Ent:=⟨objC,none,[]⟩::⟨Zb8,some 0,[]⟩::faultsL.map fun n=>⟨oneF n,some 1,[]⟩
theorem Ze5:givenL.length=8:=by decide
theorem ZaF:startL.length=8:=by decide
theorem ZiV (k:Lit):Zfp [] k=none:=by
 cases k<;>rfl
theorem Tb.new (w:World)(B:Nat->Nat):Tb w.heap.size ((w.alloc (.map #[] 0)).alloc (.cells #[.map (some w.heap.size)] 64)) (w.heap.size+1) w.heap.size B [] 0:=by
 have b:=(MapF.new prog 9 (.pointer none) w).keep ((Yak (fun _=>False) _).alloc (.cells #[.map (some w.heap.size)] 64)) id;have c:(fun k=>ptrV B (Zfp [] k))=(fun _:Lit=>(.pointer none:Value)):=by
  funext k
  rw[ZiV];rfl
 have d:(fun k=>(Zfp [] k).isSome)=(fun _:Lit=>false):=by
  funext k
  rw[ZiV];rfl
 refine⟨⟨?_,?_,fun i e a=>by simp at a,fun i f a=>by simp at a,fun i a=>by simp at a,fun i a=>by simp at a,fun i a=>by simp at a,fun a=>a.2.1 rfl,fun a=>a.2.2.1 rfl,by omega⟩,by omega,Yad _,fun i a=>by simp at a,fun i e f a=>by simp at a,fun i e f a=>by simp at a,fun i e _ a=>by simp at a⟩
 ·exact Zii (by simp)
 ·rw[c,d];exact b
theorem Tb.up_to {s:Nat}{w:World}{g b:Nat}{B:Nat->Nat}{es:List Ent}{u c:Nat}(a:Tb s w g b B es u)(d:u<=c):Tb s w g b B es c:=
 ⟨a.tab,a.tT,a.tM,a.tB,a.up,a.lk,fun i e f=>a.raw i e (Yaj d f)⟩
theorem Zm1 (k:Nat)(x:Cls)(hx:givenL[k]?=some x) :
  Zad (startL.take k) x.name=none/\Zad (startL.take k++[(⟨x,none,[]⟩:Ent)]) x.name=some k/\x.like=[]/\(startL.take k).length=k/\
   ((upE (startL.take k++[(⟨x,none,[]⟩:Ent)]) x.sup=none/\startL.take k++[(⟨x,none,[]⟩:Ent)]=startL.take (k+1))\/
    ∃a,upE (startL.take k++[(⟨x,none,[]⟩:Ent)]) x.sup=some a/\(startL.take k++[(⟨x,none,[]⟩:Ent)]).set k ⟨x,some a,[]⟩=startL.take (k+1)):=by
 match k,hx with
 |0,hx=>obtain rfl:=Yac hx;exact⟨by decide,by decide,rfl,rfl,.inl ⟨by decide,rfl⟩⟩
 |1,hx=>obtain rfl:=Yac hx;exact⟨by decide,by decide,rfl,rfl,.inr ⟨0,by decide,rfl⟩⟩
 |2,hx=>obtain rfl:=Yac hx;exact⟨by decide,by decide,rfl,rfl,.inr ⟨1,by decide,rfl⟩⟩
 |3,hx=>obtain rfl:=Yac hx;exact⟨by decide,by decide,rfl,rfl,.inr ⟨1,by decide,rfl⟩⟩
 |4,hx=>obtain rfl:=Yac hx;exact⟨by decide,by decide,rfl,rfl,.inr ⟨1,by decide,rfl⟩⟩
 |5,hx=>obtain rfl:=Yac hx;exact⟨by decide,by decide,rfl,rfl,.inr ⟨1,by decide,rfl⟩⟩
 |6,hx=>obtain rfl:=Yac hx;exact⟨by decide,by decide,rfl,rfl,.inr ⟨1,by decide,rfl⟩⟩
 |7,hx=>obtain rfl:=Yac hx;exact⟨by decide,by decide,rfl,rfl,.inr ⟨1,by decide,rfl⟩⟩
 |k+8,hx=>rw[YaS (by rw[Ze5];omega)]at hx;cases hx
theorem ZjX (x:Cls)(h:x∈givenL):x.Small:=by
 have q:givenL.all (fun x=>decide (x.name.length<=20/\x.sup.length<=20/\x.like=[]/\x.flds.all (fun f=>decide (f.name.length<=20/\f.kind.length<=20))=true/\x.flds.length<=1/\x.mths.length=0))=true:=by decide
 have g:=of_decide_eq_true (YaF.1 q x h);obtain⟨k,n,b,j,l,d⟩:=g;refine⟨by omega,by omega,by rw[b];simp,by omega,by omega,fun r c=>?_,fun f i=>?_,fun m a=>?_⟩
 ·rw[b]at c;simp at c
 ·have p:=of_decide_eq_true (YaF.1 j f i);omega
 ·rw[Ya0.1 d]at a;simp at a
def ZsX (w:World)(e:Ending)(w':World):Prop:=∃b a B,e=.returned (.pointer (some ⟨b,0,none⟩))/\Tb w.heap.size w' b a B startL 8/\Below w.heap.size w w'
theorem ZpJ (w:World)(aG:FaultTab w):Calls prog 21 #[] w (ZsX w):=by
 have D:Below w.heap.size w ((w.alloc (.map #[] 0)).alloc (.cells #[.map (some w.heap.size)] 64)):=((Yab _ w).alloc (Yad _) _).alloc (by simp) _;have n:=Hd D;have Q:=Hd (Tb.new w (fun _=>0));have au:=Hd (Zob _ (aG.keep D));have p:Hid (((w.alloc (.map #[] 0)).alloc (.cells #[.map (some w.heap.size)] 64)).heap.size=w.heap.size+2):=Hd (by simp);clear D aG;have bf:=@run_makeMap prog;go_enter func21,ntmps21
 go_wp2_with fail;generalize (w.alloc (.map #[] 0)).alloc (.cells #[.map (some w.heap.size)] 64)=a9 at n Q au p⊢;refine au.o.mono ?_;rintro e w2⟨gv,bk,rfl,F,s⟩;have G:=(F.src ClsR.st);obtain⟨bj,bh,rfl⟩:=F.shape;have N:=Hd (ClsR.st.srcMono (A':=fun k=>a9.heap.size<=k/\k<w2.heap.size) G (fun k aN a1=>⟨a1,aN⟩));have aB:=Hd (Q.o.below s);have aK:=Hd (n.o.trans (s.mono n.o.size));have Y:Hid (w.heap.size+2<=w2.heap.size):=Hd (by rw[←p.o];exact s.size);rw[Ze5]at N⊢;clear F G s au Q n
 go_wp2_with fail;go_loopw [9] (fun ay wr=>∃(k:Nat) (B:Nat->Nat),k<=8/\ay=.int .i64 k/\Tb w.heap.size wr (w.heap.size+1) w.heap.size B (startL.take k) k/\Only (fun k=>k=w.heap.size) w2 wr/\Below w.heap.size w wr) (fun ay _=>8-(intOf ay).toNat)
 case atStart=>exact⟨0,_,Yao _,rfl,aB.o,Yak _ _,aK.o⟩
 case round=>
  obtain⟨k,B,aN,rfl,t,r,i⟩:=hrel;by_cases aA:k<8
  ·obtain⟨x,R⟩:∃x,givenL[k]?=some x:=⟨_,Yaa (by rw[Ze5];exact aA)⟩
   obtain⟨aF,aR,aW,aM,aO⟩:=Zm1 k x R;have af:=Hd (ZjX x (Yaf R));obtain⟨b,o,v,rfl,ai,_,d⟩:=Src.elem (ClsR.st.src N.o r (fun m ar (e:m=w.heap.size)=>by have:=p.o;omega)) k x R;have Z:=ai;obtain⟨_,_,_,rfl,⟨lo,C,rfl⟩,⟨y,fc,rfl⟩,⟨A,u,rfl⟩⟩:=ZbX Z;have ba:wr.cell? ⟨b,o+k*8,none⟩=some (.string (S x.name)):=d 0 _ rfl;have a2:wr.cell? ⟨b,o+k*8+1,none⟩=some (.string (S x.sup)):=d 1 _ rfl;have aX:wr.cell? ⟨b,o+k*8+2,none⟩=some (.slice lo x.like.length C):=d 2 _ rfl;have a8:wr.cell? ⟨b,o+k*8+3,none⟩=some (.bool x.itf):=d 3 _ rfl;have bb:wr.cell? ⟨b,o+k*8+4,none⟩=some (.bool x.abs):=d 4 _ rfl;have a6:wr.cell? ⟨b,o+k*8+5,none⟩=some (.bool x.fin):=d 5 _ rfl;have aY:wr.cell? ⟨b,o+k*8+6,none⟩=some (.slice y x.flds.length fc):=d 6 _ rfl;have a0:wr.cell? ⟨b,o+k*8+7,none⟩=some (.slice A x.mths.length u):=d 7 _ rfl;have bg:(0:Int)<=(k:Int):=by omega
   have bd:(k:Int)<8:=by omega
   have q:=Hd t;have E:=Hd r;have l:=Hd i;have aD:=Hd ai;have a4:=Hd aF;have a7:=Hd aR;have aI:=Hd aW;have M:=Hd aM;have a5:=Hd aO;clear t r i ai Z d aF aR aW aM aO R;have aP:Below wr.heap.size wr (wr.alloc (.cells #[.string (S x.name),.string (S x.sup),.slice lo x.like.length C,.bool x.itf,.bool x.abs,.bool x.fin,.slice y x.flds.length fc,.slice A x.mths.length u] 70))/\Box (wr.alloc (.cells #[.string (S x.name),.string (S x.sup),.slice lo x.like.length C,.bool x.itf,.bool x.abs,.bool x.fin,.slice y x.flds.length fc,.slice A x.mths.length u] 70)) wr.heap.size #[.string (S x.name),.string (S x.sup),.slice lo x.like.length C,.bool x.itf,.bool x.abs,.bool x.fin,.slice y x.flds.length fc,.slice A x.mths.length u] 70:=⟨(Yab _ wr).alloc (Yad _) _,Box.new wr #[.string (S x.name),.string (S x.sup),.slice lo x.like.length C,.bool x.itf,.bool x.abs,.bool x.fin,.slice y x.flds.length fc,.slice A x.mths.length u] 70⟩
   go_upto_region 5 with fail;refine Zau (fun W=>Below wr.heap.size wr W/\Box W wr.heap.size #[.string (S x.name),.string (S x.sup),.slice lo x.like.length C,.bool x.itf,.bool x.abs,.bool x.fin,.slice y x.flds.length fc,.slice A x.mths.length u] 70) aP ?_;rintro aJ⟨g,a⟩;have aV:=Hd g;have ac:=Hd a;have aj:=a.cell 0 rfl;have ap:=a.cell 1 rfl;have az:=a.cell 2 rfl;have aw:=a.cell 3 rfl;have al:=a.cell 4 rfl;have ax:=a.cell 5 rfl;have ak:=a.cell 6 rfl;have ao:=a.cell 7 rfl;have P:=Hd (Zcd aD.o g);have aa:=Hd (q.o.below g);have K:=Hd (E.o.then (Yae (S:=fun _=>False) g) (fun _ _ m=>m.elim));have h:=Hd (l.o.trans (g.mono l.o.size));have ab:Hid (w2.heap.size<=wr.heap.size/\wr.heap.size<aJ.heap.size):=Hd ⟨E.o.size,a.lt⟩;clear aP g a ba a2 aX a8 bb a6 aY a0 aD q E l aV;go_wp2_with fail;refine(Ziu x _ aJ aa.o h.o.size P.o af.o (by rw[M.o];omega)).mono ?_;rintro e aZ⟨_,ae⟩;obtain⟨rfl,j,b4,aC,O⟩:=ae a4.o;rw[M.o]at O;have U:=Hd O;have c:=ac.o.keep j (fun m=>by have:=ab.o;have:=Y.o;omega);have bc:=Hd c;have aT:=Hd (ClsR.st.keep P.o j (fun m ar e=>by have:=p.o;omega));have H:=Hd (K.o.trans j);have f:=Hd (h.o.trans (j.below h.o.size (fun m (e:m=w.heap.size)=>by omega)));have I:Hid (w2.heap.size<=b4):=Hd (by have:=ab.o;omega);clear aj ap az aw al ax ak ao ae O j aC aa ac P K h;have aj:=c.cell 0 rfl;have ap:=c.cell 1 rfl;have az:=c.cell 2 rfl;have aw:=c.cell 3 rfl;have al:=c.cell 4 rfl;have ax:=c.cell 5 rfl;have ak:=c.cell 6 rfl;have ao:=c.cell 7 rfl;clear c;go_wp2_with fail;have V:(startL.take k++[(⟨x,none,[]⟩:Ent)])[k]?=some ⟨x,none,[]⟩:=by
    rw[YaJ (by rw[M.o];exact Yad _),M.o,Ycz];rfl
   have T:addB B k b4 k=b4:=ZbU;refine(ZkW x _ aZ U.o f.o.size V a7.o aT.o (fun m ar e=>by rw[T]at e;have:=I.o;omega) af.o (by rw[Yal,M.o];simp;omega)).mono ?_;rintro e am⟨ad,_,X⟩;have ah:Tb w.heap.size am (w.heap.size+1) w.heap.size (addB B k b4) (startL.take (k+1)) (k+1)/\Only (fun m=>m=w.heap.size) w2 am/\Below w.heap.size w am/\∃z:Int,e=.returned (.int .i64 z):=by
    rcases a5.o with⟨av,aq⟩|⟨bi,av,aq⟩
    ·obtain⟨rfl,L⟩:=ad av;refine⟨?_,H.o.then (Yae (S:=fun _=>False) L) (fun _ _ m=>m.elim),f.o.trans (L.mono f.o.size),_,rfl⟩;rw[←aq];exact(U.o.below L).up_to (Nat.le_succ _)
    ·obtain⟨rfl,J,ag⟩:=X bi av (by rw[aI.o];rfl);rw[T]at J;have a3:ZbI (startL.take k++[(⟨x,none,[]⟩:Ent)]) x.like=[]:=by rw[aI.o];rfl
     rw[a3,aq]at ag;refine⟨ag,H.o.then J (fun m ar (e:m=b4)=>by have:=I.o;omega),f.o.trans (J.below f.o.size (fun m (e:m=b4)=>by have:=I.o;have:=Y.o;omega)),_,rfl⟩
   obtain⟨aS,aH,aL,z,rfl⟩:=ah;have aE:=Hd aS;have aQ:=Hd aH;have aU:=Hd aL;clear aS aH aL ad X V aj ap az aw al ax ak ao;go_wp2;go_roundw
   case rel=>exact⟨k+1,_,by omega,by go_num,aE.o,aQ.o,aU.o⟩
   case measure=>simp[intOf];omega
  ·obtain rfl:k=8:=by omega
   have q:=Hd t;have l:=Hd i;clear t i r;go_wp2;go_ret;exact⟨_,_,_,rfl,q.o,l.o⟩
theorem ZhE (z:Value)(n:Nat):(madeCells #[z] (n*1)).toList=List.replicate n z:=by
 unfold madeCells;rw[YaH];apply List.ext_getElem
 ·simp
 ·intro i a b;simp[Nat.mod_one]
abbrev MRow (w:World)(g n:Nat)(t:TypeId)(xs:List Value):Prop:=w.ownsRow 0 t 1 (.slice (some ⟨g,0,none⟩) n n) n xs
theorem MRow.at_ {w:World}{g n:Nat}{t:TypeId}{xs:List Value}(b:MRow w g n t xs)(a:Nat)(c:a<n):w.cell? ⟨g,a,none⟩=xs[a]?:=World.ownsRow.cellAt b a (by omega)
theorem MRow.free {w:World}{g n:Nat}{t:TypeId}{xs:List Value}(b:MRow w g n t xs)(a:Nat):w.frozen? ⟨g,a,none⟩=false:=World.ownsRow.frozenAt b a
theorem MRow.set {w:World}{g n:Nat}{t:TypeId}{xs:List Value}(b:MRow w g n t xs)(a:Nat)(u:Value):MRow (w.setCell ⟨g,a,none⟩ u) g n t (xs.set a u):=(World.ownsRow.stored b a u).1
theorem MRow.keep {S:Nat->Prop}{w w':World}{g n:Nat}{t:TypeId}{xs:List Value}(f:MRow w g n t xs)(d:Only S w w')(c:¬S g):MRow w' g n t xs:=d.row f (fun b a=>by simp[Value.ownBlock]at a;subst a;exact c)
theorem MRow.len {w:World}{g n:Nat}{t:TypeId}{xs:List Value}(a:MRow w g n t xs):xs.length=n:=by have:=a.1;omega
theorem MRow.lt {w:World}{g n:Nat}{t:TypeId}{xs:List Value}(a:MRow w g n t xs):g<w.heap.size:=(World.ownsRow.lt a g rfl).2
theorem Zcq {P:Program}(t e:TypeId)(i:TypeInfo)(z:Value)(j:P.underlying t=some (.slice e))(p:P.info? e=some i)(g:i.zero=some z)(h:i.size=1)(f:z.cells=#[z])(n:Nat)(d:i.bytes*n<=281474976710656)(b:n<=maxLen)(w:World) :
  ∃w',(Instr.makeSlice t (.int .i64 (n:Int)) (.int .i64 (n:Int))).run P w=.ok (.slice (some ⟨w.heap.size,0,none⟩) n n) w'/\MRow w' w.heap.size n e (List.replicate n z)/\Below w.heap.size w w':=by
 obtain⟨w',l,c,a⟩:=run_make_full (P:=P) w 0 t e i z 1 j p g h .i64 .i64 n d b (Yao _);rw[f,ZhE]at c;exact⟨w',l,c,⟨a.os,a.tape,a.output,a.size,fun k m=>a.block k m (by simp)⟩⟩
def ZsW (B:Nat->Nat)(n:Nat)(w:World)(e:Ending)(w':World):Prop:=∃g,e=.returned (.slice (some ⟨g,0,none⟩) n n)/\w.heap.size<=g/\MRow w' g n 77 ((List.range n).map (entV B))/\Below w.heap.size w w'
theorem Zj0 {A:Nat->Prop}{B:Nat->Nat}{a5 ay:Nat}{es:List Ent}{az:World}(aD:Tab A az a5 ay B es)(aI:∀(i:Nat) (e:Ent),es[i]?=some e->Zad es e.cls.name=some i)(aA:es.length<=1048576)(w:World)(aN:Below az.heap.size az w) :
  Calls prog 25 #[.pointer (some ⟨a5,0,none⟩)] w (ZsW B es.length w):=by
 obtain⟨aX,ah,W,am,ae⟩:=info_parts ZeJ;obtain⟨ap,V,b,F⟩:=Zcq 71 77 aX (.pointer none) underlying71 ah W am rfl es.length (by rw[ae];omega) (by unfold maxLen;omega) w;have j:=aD.below aN;obtain⟨aw,av⟩:∃aw,aw=es.length:=⟨_,rfl⟩
 have a0:=j.box.cell 0 rfl;have U:=fun ty=>j.map.len (t:=62) underlying62 ty;obtain⟨w2,aP,aG,L,aR⟩:=(j.map.keep (Yae (S:=fun _=>False) F) id).range Zbb underlying62;have a4:=(j.below F).box.cell 0 rfl;have aO:=Hd j;have u:=Hd (b.keep (Yae (S:=fun _=>False) L) id);have D:=Hd F;have ag:=Hd L;have aQ:=Hd aG;have q:Hid (w.heap.size<ap.heap.size):=Hd b.lt;have aL:=Hd aI;rw[←av]at V U u aA⊢;have aB:=Hd av;clear j b F L aG aR ah W am ae aD aI aN av;go_enter func25,ntmps25
 go_wp2_with fail;have X:Hid (w.heap.size<=ap.heap.size):=Hd D.o.size;have aH:Hid (Below w.heap.size w w2):=Hd (D.o.trans (ag.o.mono D.o.size));have a8:=aO.o.map.lt;clear V a0 U aP a4 D ag;generalize a3:ap.heap.size=aK at aQ q X⊢;clear a3;obtain⟨g,r⟩:∃g,g=w.heap.size:=⟨_,rfl⟩
 rw[←r]at u q⊢;have y:Hid (g=w.heap.size):=Hd r;clear r;go_loopw [] (fun wr=>∃(l:Lit->Bool) (c:Nat) (xs:List Value),MapG prog 9 (.pointer none) wr ay aK es.length (fun k=>ptrV B (Zfp es k)) (fun k=>(Zfp es k).isSome) l c/\MRow wr g aw 77 xs/\(∀x,l x=true->(Zfp es x).isSome=true)/\
   (∀(i:Nat) (e:Ent),es[i]?=some e->l (.string e.cls.name)=false->xs[i]?=some (entV B i))/\Below w.heap.size w wr) (fun wr=>wr.rangeLeft ay aK)
 case atStart=>exact⟨_,_,_,aQ.o,u.o,fun _ a9=>a9,fun i e s au=>(by
   have h:(Zad es e.cls.name).isSome=false:=au;rw[aL.o i e s]at h;cases h),aH.o⟩
 case round=>
  obtain⟨l,c,xs,r,b,I,G,J⟩:=hrel;have aM:=Hd r.left;have m:=Hd b;have E:=Hd G;have v:=Hd J;have K:=Hd I;rcases r.next Zbb 0 with⟨bd,ax,Q⟩|⟨ak,ao,d,bf,ar,au,Q,ai,af,H,aF,al⟩
  ·go_wp2;go_ret;have ac:=m.o.len;have aT:xs=(List.range aw).map (entV B):=by
    apply Yb5;intro i;rcases YaC i aw with aq|aq
    ·obtain⟨e,s⟩:∃e,es[i]?=some e:=⟨_,Yaa (by rw[←aB.o];exact aq)⟩
     rw[E.o i e s (ax _),Yav,Ybl aq];rfl
    ·rw[YaS (by omega),YaS (by simp;omega)]
   exact⟨g,rfl,Ycx y.o.symm,by rw[←aT];exact m.o,v.o⟩
  ·have Y:=K.o ao au;obtain⟨f,M⟩:=YaL.1 Y;obtain⟨n,rfl⟩:∃n,ao=.string n:=by
    cases ao<;>first|exact⟨_,rfl⟩|(cases M)
   have N:Zad es n=some f:=M;have Z:=ZaV N;obtain⟨e,s⟩:∃e,es[f]?=some e:=⟨_,Yaa Z⟩
   have a1:(Instr.next (.pointer (some ⟨aK,0,none⟩)) false 0).run prog wr=.ok (.tuple #[.bool true,ak,.pointer (some ⟨B f,0,none⟩)]) d:=by
    have h:=Q;rw[M,Zbv]at h;exact h
   have aZ:(Instr.entry (.pointer (some ⟨aK,0,none⟩))).run prog d=.ok (.tuple #[ak,.pointer (some ⟨B f,0,none⟩)]) d:=by
    have h:=al;rw[M,Zbv]at h;exact h
   have O:=Hd (v.o.trans (H.below v.o.size (fun R (e:R=aK)=>by have:=X.o;omega)));obtain⟨_,_,_,_,ad,_,_,_,_⟩:=(aO.o.below O.o).ent f e s;have bc:d.cell? ⟨B f,0,none⟩=some (.int .i64 f):=ad.cell 0 rfl;have a:=m.o.keep H (fun R=>by have:=q.o;omega);have aS:f<aw:=by rw[aB.o];exact Z
   have ac:=a.len;obtain⟨aU,ba⟩:∃aU,d.cell? ⟨g,f,none⟩=some aU:=⟨xs[f]'(by omega),by rw[a.at_ f aS];exact Yaa _⟩
   have bb:=a.free f;have z:=Hd a;have aj:=Hd ai;have aJ:=Hd af;have bg:=Hd s;have aE:=Hd N;have a6:(0:Int)<=(f:Int):=by omega
   have a7:(f:Int)<(aw:Int):=by omega
   clear r b I G J ar Q al ai af H aF Y M ad a s N ac;go_wp2;go_roundw
   case rel=>
    have C:Only (fun k=>k=g) d (d.setCell ⟨g,f,none⟩ (.pointer (some ⟨B f,0,none⟩))):=(Yak (fun k=>k=g) d).setCell (p:=⟨g,f,none⟩) rfl _;refine⟨_,_,_,aj.o.keep C (fun R=>by have:=y.o;omega) (fun R=>by have:=q.o;omega),z.o.set f _,fun x aV=>K.o x (by simp at aV;exact aV.1),fun i T aa ab=>?_,O.o.trans (C.below O.o.size (fun R (e:R=g)=>by have:=y.o;omega))⟩;have aW:=z.o.len;by_cases P:i=f
    ·subst P;rw[Ybx (by omega)]
    ·rw[Ybw (fun R=>P R.symm)];refine E.o i T aa ?_;cases a2:l (.string T.cls.name)with
     |false=>rfl
     |true=>
      exfalso;simp only[a2,YaG,Bool.not_eq_false']at ab;have aY:T.cls.name=n:=by simpa[Lit.sameKey]using ab
      have aC:=aL.o i T aa;rw[aY,aE.o]at aC;exact P (Yac aC).symm
   case measure=>
    have C:Only (fun k=>k=g) d (d.setCell ⟨g,f,none⟩ (.pointer (some ⟨B f,0,none⟩))):=(Yak (fun k=>k=g) d).setCell (p:=⟨g,f,none⟩) rfl _;have h:=(aj.o.keep C (fun R=>by have:=y.o;omega) (fun R=>by have:=q.o;omega)).left;rw[h,aM.o];exact aJ.o
