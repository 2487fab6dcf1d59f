/- laws -/
import Derived.Test.YtegljjbclladdaaGreatDoorK22
import Derived.Laws.EntriesVeiled
set_option maxRecDepth 100000
set_option maxHeartbeats 16000000
namespace Go.Proofs.YtegljjbclladdaaGreatDoor
open Go.RowKit Tryz
def firstT (l:List Bool):Int:=if l.findIdx id<l.length then(l.findIdx id:Nat)else -1
def ZrE (l:List Bool)(w:World)(e:Ending)(w':World):Prop:=e=.returned (.int .i64 (firstT l))/\w'=w
theorem Zoi (l:List Bool)(w:World)(g:Nat)(u:MRow w g l.length 4 (l.map .bool))(x:l.length<=1048576) :
  Calls prog 26 #[.slice (some ⟨g,0,none⟩) l.length l.length,.bool true] w (ZrE l w):=by
 obtain⟨n,t⟩:∃n,n=l.length:=⟨_,rfl⟩
 rw[←t]at u x⊢;have z:=Hd u;have h:=Hd t;clear u t;go_enter func26,ntmps26;go_wp2
 go_loopw [8] (fun v wr=>∃k:Nat,k<=n/\v=.int .i64 k/\wr=w/\∀i,i<k->l[i]?=some false) (fun v _=>n-(intOf v).toNat)
 case atStart=>exact⟨0,Yao _,rfl,rfl,fun i j=>absurd j (YbN _)⟩
 case round=>
  obtain⟨k,C,rfl,rfl,r⟩:=hrel;have f:=Hd r;clear r;by_cases a:k<n
  ·obtain⟨b,s⟩:∃b,l[k]?=some b:=⟨_,Yaa (by rw[←h.o];exact a)⟩
   have D:wr.cell? ⟨g,k,none⟩=some (.bool b):=by rw[z.o.at_ k a,Yav,s];rfl
   have A:(0:Int)<=(k:Int):=by omega
   have B:(k:Int)<(n:Int):=by omega
   have q:=Hd s;clear s;cases b with
   |true=>
    go_wp2;go_ret;refine⟨?_,rfl⟩;have c:l.findIdx id=k:=by
     have m:k<l.length:=by rw[←h.o];exact a
     refine(List.findIdx_eq m).2 ⟨?_,fun i j=>?_⟩
     ·have:=q.o;rw[Yaa m]at this;simpa using this
     ·have:=f.o i j;rw[Yaa (by omega)]at this;simpa using this
    have d:firstT l=(k:Int):=by
     unfold firstT;rw[c,Yay (by rw[←h.o];exact a)]
    show Ending.returned (.int .i64 (k:Int))=_;rw[d]
   |false=>
    go_wp2;go_roundw
    case rel=>exact⟨k+1,by omega,by go_num,trivial,fun i j=>by
     rcases YaC i k with c|c
     ·exact f.o i c
     ·rw[show i=k by omega];exact q.o⟩
    case measure=>simp[intOf];omega
  ·obtain rfl:k=n:=by omega
   go_wp2;go_ret;refine⟨?_,rfl⟩;have c:¬l.findIdx id<l.length:=fun u=>by
    have d:=YbY (xs:=l) (p:=id) (w:=u);have y:=f.o (l.findIdx id) (by rw[h.o];exact u);rw[Yaa u]at y;rw[Yac y]at d;cases d
   have d:firstT l=-1:=by
    unfold firstT;rw[Yar c]
   show Ending.returned (.int .i64 (-1))=_;rw[d]
def parE (es:List Ent)(c:Nat):List Nat:=match es[c]? with|some e=>e.par|none=>[]
theorem ZcY {es:List Ent}{c:Nat}{e:Ent}(a:es[c]?=some e):parE es c=e.par:=by unfold parE;rw[a]
def Zaq (es:List Ent):Nat->List Bool×List Nat->Nat->List Bool×List Nat
 |0,s,_=>s
 |f+1,s,c=>if s.1.getD c false=true then s else
  let t:=(parE es c).foldl (Zaq es f) (s.1.set c true,s.2)
  (t.1,t.2++[c])
def Zb2 (V:List Bool):Nat:=V.count false
theorem ZeN:∀ {V:List Bool} {c:Nat},V[c]?=some false->Zb2 (V.set c true)+1=Zb2 V
 |[],c,h=>by simp at h
 |b::V,0,h=>by
  obtain rfl:=Yac h;simp[Zb2]
 |b::V,c+1,h=>by
  have a:=ZeN (V:=V) (c:=c) (by simpa using h);unfold Zb2 at a⊢;rw[YbC,YbB,YbB];omega
theorem ZdZ (V:List Bool):Zb2 V<=V.length:=List.count_le_length
theorem ZlZ {V:List Bool}{c:Nat}(a:c<V.length)(f:Zb2 V=0):V.getD c false=true:=by
 have d:=List.count_eq_zero.1 f;rw[Yap,Yaa a];cases b:V[c]with
 |true=>rfl
 |false=>exact absurd (b▸Ycf a) d
theorem ZdN (es:List Ent):∀(f:Nat) (s:List Bool×List Nat) (c:Nat),(Zaq es f s c).1.length=s.1.length/\Zb2 (Zaq es f s c).1<=Zb2 s.1
 |0,s,c=>⟨rfl,Yad _⟩
 |f+1,s,c=>by
  have m:=ZdN es f;have h:∀(l:List Nat) (s:List Bool×List Nat),(l.foldl (Zaq es f) s).1.length=s.1.length/\Zb2 (l.foldl (Zaq es f) s).1<=Zb2 s.1:=by
   intro l;induction l with
   |nil=>intro s;exact⟨rfl,Yad _⟩
   |cons d l k=>
    intro s;have a:=k (Zaq es f s d);have j:=m s d;rw[YaM];exact⟨a.1.trans j.1,Yaj a.2 j.2⟩
  unfold Zaq;split
  ·exact⟨rfl,Yad _⟩
  ·have a:=h (parE es c) (s.1.set c true,s.2);refine⟨by rw[a.1];simp,Yaj a.2 ?_⟩;show Zb2 (s.1.set c true)<=Zb2 s.1;cases g:s.1[c]? with
   |none=>rw[List.set_eq_of_length_le (by rw[List.getElem?_eq_none_iff]at g;exact g)];exact Yad _
   |some b=>
    cases b with
    |true=>
     have:s.1.set c true=s.1:=by
      apply Yb5;intro i;by_cases n:i=c
      ·subst n;rw[Ybx (Yag.1 g).1,g]
      ·rw[Ybw (fun p=>n p.symm)]
     rw[this];exact Yad _
    |false=>have:=ZeN g;omega
def Zca (es:List Ent)(n:Nat):List Nat:=((List.range n).foldl (Zaq es n) (List.replicate n false,[])).2
abbrev Zdv (b3 b4 b5:Nat):Array Value:=#[.pointer (some ⟨b4,0,none⟩),.pointer (some ⟨b5,0,none⟩),.pointer (some ⟨b3,0,none⟩)]
structure PfS (lo0 b3 b4 b5 gv lo:Nat):Prop where
 l3:lo0<=b3
 l4:lo0<=b4
 l5:lo0<=b5
 lg:lo0<=gv
 u3:b3<lo
 u4:b4<lo
 u5:b5<lo
 ug:gv<lo
 n34:b3≠b4
 n35:b3≠b5
 n3g:b3≠gv
 n45:b4≠b5
 n4g:b4≠gv
 n5g:b5≠gv
structure Pf (B:Nat->Nat) (w0:World) (b3 b4 b5 gv lo n:Nat) (V:List Bool) (O:List Nat) (ov:Value) (us:List Value) (W:World):Prop where
 box3:Box W b3 #[ov] 71
 box4:Box W b4 #[.slice (some ⟨gv,0,none⟩) n n] 74
 box5:Box W b5 #[.func (.func 85) #[] (Zdv b3 b4 b5)] 105
 row:MRow W gv n 4 (V.map .bool)
 ord:TRow 1 77 (EntP B) lo W ov O us
 bel:Below w0.heap.size w0 W
 low:lo<=W.heap.size
def VisG (B:Nat->Nat)(b:World)(b3 b4 b5 gv lo n:Nat)(s:List Bool×List Nat)(e:Ending)(w':World):Prop:=e=.returned (.bool false)/\∃c a,Pf B b b3 b4 b5 gv lo n s.1 s.2 c a w'
theorem Pf.drew {B:Nat->Nat}{c:World}{b3 b4 b5 gv lo n:Nat}{V:List Bool}{h:List Nat}{f:Value}{d:List Value}{W:World}(b:Pf B c b3 b4 b5 gv lo n V h f d W):Pf B c b3 b4 b5 gv lo n V h f d W.drew:=by
 have a:Below W.heap.size W W.drew:=Zab (Yab _ _);have g:=Yae (S:=fun _=>False) a;exact⟨b.box3.below a,b.box4.below a,b.box5.below a,b.row.keep g id,b.ord.below (EntP.st B) a,b.bel.trans (a.mono b.bel.size),Yaj b.low a.size⟩
theorem ZkR {V:List Bool}{c:Nat}(a:c<V.length):(V.map Value.bool)[c]?=some (.bool (V.getD c false)):=by
 rw[Yav,Yap,Yaa a];rfl
theorem Pf.mark {B:Nat->Nat}{d:World}{b3 b4 b5 gv lo n:Nat}{V:List Bool}{i:List Nat}{h:Value}{f:List Value}{W:World}(b:Pf B d b3 b4 b5 gv lo n V i h f W)(g:PfS d.heap.size b3 b4 b5 gv lo)(c:Nat) :
  Pf B d b3 b4 b5 gv lo n (V.set c true) i h f (W.setCell ⟨gv,c,none⟩ (.bool true)):=by
 have a:Only (fun k=>k=gv) W (W.setCell ⟨gv,c,none⟩ (.bool true)):=(Yak (fun k=>k=gv) W).setCell (p:=⟨gv,c,none⟩) rfl _;refine⟨b.box3.keep a g.n3g,b.box4.keep a g.n4g,b.box5.keep a g.n5g,?_,b.ord.past (EntP.st B) a (fun k j e=>by have:=g.ug;omega),b.bel.trans (a.below b.bel.size (fun k (e:k=gv)=>by have:=g.lg;omega)),Yaj b.low a.size⟩;have:=b.row.set c (.bool true);rw[List.map_set];exact this
theorem Pf.vlen {B:Nat->Nat}{a:World}{b3 b4 b5 gv lo n:Nat}{V:List Bool}{d:List Nat}{c:Value}{b:List Value}{W:World}(f:Pf B a b3 b4 b5 gv lo n V d c b W):V.length=n:=by
 have:=f.row.len
 rwa [YaB]at this
theorem Zha {es:List Ent}(a:∀c,∀d∈parE es c,d<es.length):∀(f:Nat) (s:List Bool×List Nat) (c:Nat),s.1.length=es.length->c<es.length->(Zaq es f s c).2.length+Zb2 (Zaq es f s c).1<=s.2.length+Zb2 s.1
 |0,s,c,_,_=>Yad _
 |f+1,s,c,n,q=>by
  have p:=Zha a f;have h:∀(l:List Nat) (s:List Bool×List Nat),s.1.length=es.length->(∀d∈l,d<es.length)->(l.foldl (Zaq es f) s).2.length+Zb2 (l.foldl (Zaq es f) s).1<=s.2.length+Zb2 s.1:=by
   intro l;induction l with
   |nil=>intro s _ _;exact Yad _
   |cons d l i=>
    intro s b g;rw[YaM];exact Yaj (i (Zaq es f s d) (((ZdN es f s d).1).trans b) (fun x k=>g x (Yau _ k))) (p s d b (g d Yam))
  unfold Zaq;split
  ·exact Yad _
  ·rename_i m;have b:=h (parE es c) (s.1.set c true,s.2) (by simp[n]) (a c);have g:s.1[c]?=some false:=by
    rw[Yaa (by omega)];refine Ya8 some ?_;cases j:s.1[c]with
    |false=>rfl
    |true=>exact absurd (by rw[Yap,Yaa (by omega),j];rfl) m
   have r:=ZeN g;dsimp only at b⊢;rw[Yal];simp only[Ycb];omega
theorem ZgS (es:List Ent)(f:Nat):∀(l:List Nat) (s:List Bool×List Nat),(l.foldl (Zaq es f) s).1.length=s.1.length/\Zb2 (l.foldl (Zaq es f) s).1<=Zb2 s.1
 |[],s=>⟨rfl,Yad _⟩
 |d::l,s=>by
  have a:=ZgS es f l (Zaq es f s d);have b:=ZdN es f s d;rw[YaM];exact⟨a.1.trans b.1,Yaj a.2 b.2⟩
theorem ZdV {es:List Ent}(a:∀c,∀d∈parE es c,d<es.length)(f:Nat):∀(l:List Nat) (s:List Bool×List Nat),s.1.length=es.length->(∀d∈l,d<es.length)->(l.foldl (Zaq es f) s).2.length+Zb2 (l.foldl (Zaq es f) s).1<=s.2.length+Zb2 s.1
 |[],s,_,_=>Yad _
 |d::l,s,h1,h2=>by
  rw[YaM];exact Yaj (ZdV a f l (Zaq es f s d) (((ZdN es f s d).1).trans h1) (fun x b=>h2 x (Yau _ b))) (Zha a f s d h1 (h2 d Yam))
theorem Zds {α b:Type}(g:α->b->α){l:List b}{k:Nat}{x:b}(a:l[k]?=some x)(s:α):(l.take (k+1)).foldl g s=g ((l.take k).foldl g s) x:=by
 rw[YaK,a,Ybc];rfl
theorem Zk2 {α:Type}{l:List α}{k:Nat}{P:α->Prop}(b:∀x∈l,P x):∀x∈l.take k,P x:=fun x a=>b x (Ybg a)
theorem Zna {A:Nat->Prop}{B:Nat->Nat}{bZ bN:Nat}{es:List Ent}{h:World}(aO:Tab A h bZ bN B es){b3 b4 b5 gv lo:Nat}(ad:PfS h.heap.size b3 b4 b5 gv lo)(ai:es.length<=1048576)(f c:Nat)(e:Ent)(am:es[c]?=some e)(aA:e.lk.length<=9223372036854775807)
  (ae:∀c,∀d∈parE es c,d<es.length)
  (bn:∀(V:List Bool) (w:List Nat) (y:Value) (s:List Value) (d:Nat) (W:World),d<es.length->Zb2 V<=f->w.length+Zb2 V<=es.length->Pf B h b3 b4 b5 gv lo es.length V w y s W->Calls prog 85 (#[entV B d]++Zdv b3 b4 b5) W (VisG B h b3 b4 b5 gv lo es.length (Zaq es f (V,w) d)))
  (V:List Bool)(w:List Nat)(y:Value)(s:List Value)(W:World)(O:Zb2 V<=f+1)(ab:w.length+Zb2 V<=es.length)(aH:Pf B h b3 b4 b5 gv lo es.length V w y s W) :
  Calls prog 85 (#[entV B c]++Zdv b3 b4 b5) W (VisG B h b3 b4 b5 gv lo es.length (Zaq es (f+1) (V,w) c)):=by
 have F:=(Yag.1 am).1;obtain⟨n,al⟩:∃n,n=es.length:=⟨_,rfl⟩
 have a6:=Hd aO;have bi:=Hd am;have i:=Hd aH;have r:=Hd ad;have ac:=aH.vlen;have R:∀W,Below h.heap.size h W->W.cell? ⟨B c,0,none⟩=some (.int .i64 c):=fun W q=>by
  obtain⟨_,_,_,_,bv,_,_,_,_⟩:=(a6.o.below q).ent c e am;exact bv.cell 0 rfl
 have bW:=Hd R;obtain⟨v,aj⟩:∃v,v=V.getD c false:=⟨_,rfl⟩
 have aB:V[c]?=some v:=by
  rw[aj,Yap,Yaa (by rw[ac];exact F)];rfl
 have aY:∀W,Below h.heap.size h W->Pf B h b3 b4 b5 gv lo es.length V w y s W->W.cell? ⟨b4,0,none⟩=some (.slice (some ⟨gv,0,none⟩) n n)/\W.cell? ⟨B c,0,none⟩=some (.int .i64 c)/\W.cell? ⟨gv,c,none⟩=some (.bool v):=fun W q au=>
  ⟨by rw[al];exact au.box4.cell 0 rfl,R W q,by rw[au.row.at_ c F,ZkR (by rw[ac];exact F),←aj]⟩
 have T:=Hd (fun W q=>aY W ((i.o.bel).trans (YbP q i.o.bel.size)) (⟨i.o.box3.below q,i.o.box4.below q,i.o.box5.below q,i.o.row.keep (Yae (S:=fun _=>False) q) id,i.o.ord.below (EntP.st B) q,i.o.bel.trans (YbP q i.o.bel.size),Yaj i.o.low q.size⟩:Pf B h b3 b4 b5 gv lo es.length V w y s W));have aJ:Below W.heap.size W W:=Yab _ _;obtain⟨a2,aT,bf⟩:=T.o W aJ;have bU:(0:Int)<=(c:Int):=by omega
 have bR:(c:Int)<(n:Int):=by rw[al];omega
 have I:=Hd ae;have bs:=Hd bn;have ak:=Hd O;have bu:=Hd aB;have aX:=Hd aj;have bY:=Hd F;have aG:=Hd ai;have aW:=Hd aA;have X:=Hd ab;have b0:=Hd al;clear aO ad am aA ae bn O aH R aB aY ac aj F ai al ab;cases v with
 |true=>
  go_enter func85,ntmps85
  go_upto_region 1 with fail;first
  |(go_region_held (fun W=>W.cell? ⟨b4,0,none⟩=some (.slice (some ⟨gv,0,none⟩) n n)/\W.cell? ⟨B c,0,none⟩=some (.int .i64 c)/\W.cell? ⟨gv,c,none⟩=some (.bool true))
    ((refine T.o _ ?_;(with_reducible repeat (first|exact Yab _ _|assumption|refine Zab ?_)))) (fail))
  |fail
  all_goals
   clear a2 aT bf;go_wp2;go_ret;refine⟨rfl,y,s,?_⟩;have bG:Zaq es (f+1) (V,w) c=(V,w):=by
    unfold Zaq;rw[Yay aX.o.symm]
   rw[bG];exact i.o.drew
 |false=>
  go_enter func85,ntmps85
  go_upto_region 1 with fail;first
  |(go_region_held (fun W=>W.cell? ⟨b4,0,none⟩=some (.slice (some ⟨gv,0,none⟩) n n)/\W.cell? ⟨B c,0,none⟩=some (.int .i64 c)/\W.cell? ⟨gv,c,none⟩=some (.bool false))
    ((refine T.o _ ?_;(with_reducible repeat (first|exact Yab _ _|assumption|refine Zab ?_)))) (fail))
  |fail
  all_goals
   clear a2 aT bf;have U:=Hd i.o.drew;obtain⟨bA,bC,bB⟩:=T.o _ (Zab aJ);have bJ:=U.o.row.free c;clear T aJ i;go_upto_region 2 with fail;go_region
   all_goals
    have P:Pf B h b3 b4 b5 gv lo es.length (V.set c true) w y s ((W.setCell ⟨gv,c,none⟩ (.bool true)).drew.drew):=(U.o.mark r.o c).drew;clear bA bC bB bJ U;go_upto_region 3 with fail;refine Zau (Pf B h b3 b4 b5 gv lo es.length (V.set c true) w y s) P ?_;intro W2 K;clear P;have C:=ZcY bi.o;have ag:Zb2 (V.set c true)+1=Zb2 V:=ZeN bu.o;have H:(V.set c true).length=es.length:=K.vlen;have z:∀d∈e.par,d<es.length:=fun d bD=>I.o c d (by rw[C];exact bD);have E:Zjy B 85 (Zdv b3 b4 b5) e.par (fun k W=>∃y s,Pf B h b3 b4 b5 gv lo es.length ((e.par.take k).foldl (Zaq es f) (V.set c true,w)).1 ((e.par.take k).foldl (Zaq es f) (V.set c true,w)).2 y s W) (fun _ _=>False):=by
     intro k x bH br ⟨aZ,bl,a8⟩;have ba:=z x (Yaf br);have bk:=ZgS es f (e.par.take k) (V.set c true,w);have a5:=ZdV I.o f (e.par.take k) (V.set c true,w) H (Zk2 z);refine(bs.o _ _ aZ bl x bH ba ?_ ?_ a8).mono ?_
     ·have aq:=bk.2;have aM:=ak.o;dsimp only at aq;omega
     ·have aM:=X.o;dsimp only at a5;omega
     ·rintro b6 b7⟨rfl,bo,a7,bt⟩;refine⟨false,rfl,(fun au=>by cases au),fun _=>⟨bo,a7,?_⟩⟩;rw[Zds (Zaq es f) br];exact bt
    have bj:W2.cell? ⟨b5,0,none⟩=some (.func (.func 85) #[] (Zdv b3 b4 b5)):=K.box5.cell 0 rfl;have aE:=Hd (Zgm a6.o 85 (Zdv b3 b4 b5) c e bi.o _ _ W2 (fun _ _=>rfl) (fun k w' ⟨_,_,au⟩=>au.bel) ⟨y,s,K⟩ E aW.o);have N:(e.par.foldl (Zaq es f) (V.set c true,w)).2.length+1<=es.length:=by
     have aq:=ZdV I.o f e.par (V.set c true,w) H z;have aM:=X.o;dsimp only at aq;omega
    have Z:=Hd N;have aS:=Hd C;clear E C ag H z K N;go_wp2_with fail;refine aE.o.mono ?_;rintro b9 G⟨b,rfl,a4,aF⟩;cases b with
    |true=>obtain⟨_,_,au⟩:=a4 rfl;exact au.elim
    |false=>
     obtain⟨bP,bV,a⟩:=aF rfl;rw[YaE]at a;have bg:Zaq es (f+1) (V,w) c=((e.par.foldl (Zaq es f) (V.set c true,w)).1,(e.par.foldl (Zaq es f) (V.set c true,w)).2++[c]):=by
      rw[Zaq];rw[Yar (by rw[←aX.o];decide),aS.o]
     have af:=Hd bg;clear a4 aF bg bj aE;generalize e.par.foldl (Zaq es f) (V.set c true,w)=t at a Z af;obtain⟨b8,ao⟩:=t;dsimp only at a Z af;obtain⟨bw,bb,aR,bp,a3⟩:=info_parts ZeJ;obtain⟨aK,aL,rfl⟩:=a.ord.shape;have c3:=a.box3.cell 0 rfl;have j:Below G.heap.size G (G.alloc (.cells #[.pointer (some ⟨B c,0,none⟩)] 77)):=(Yab _ G).alloc (Yad _) _;have L:=Hd (a.ord.below (EntP.st B) j);have a1:=Hd (Box.new G #[.pointer (some ⟨B c,0,none⟩)] 77);have bh:=Hd (a.box3.below j);have aU:=Hd (a.box4.below j);have bc:=Hd (a.box5.below j);have bm:=Hd (a.row.keep (Yae (S:=fun _=>False) j) id);have aw:=Hd (Yaj a.low j.size);have ax:=Hd (a.bel.trans (j.mono a.bel.size));obtain⟨m,P⟩:∃m,m=ao.length:=⟨_,rfl⟩
     have av:=Hd L.o.row;rw[←P]at av c3;have aN:=Hd P;have bO:m<=1048576:=by have:=Z.o;have:=aG.o;omega
     clear j a P;go_wp2_with (at_builtin;refine Zbo _ rfl _ _ 71 rfl 77 bw (.pointer none) 1 8 underlying71 bb aR bp a3 rfl (by decide) _ _ _ rfl av.o ⟨G.heap.size,0,none⟩ 1 1 [.pointer (some ⟨B c,0,none⟩)] rfl rfl (by intro b1 ah bL;rw[Ybn,Ya6];exact a1.o.cell b1 (by rw[←bL];simp)) (by intro ah ad;simp at ad;rcases ad with rfl;rfl) ?c3 ?c4 ?_)
     case c3=>unfold maxLen;omega
     case c4=>omega
     intro bx aa J M;have l:Grew (G.alloc (.cells #[.pointer (some ⟨B c,0,none⟩)] 77)) (.slice aK ao.length aL) aa bx:=by rw[←aN.o];exact M
     have Y:=L.o.snoc (EntP.st B) l aw.o (x:=c) (u:=.pointer (some ⟨B c,0,none⟩)) rfl rfl (by rw[←aN.o];exact J);have D:∀k,k<lo->¬(Value.slice aK ao.length aL).ownBlock=some k:=fun k bI ah=>by have:=L.o.own _ ah;omega
     have ap:=bh.o.keep l.only (D _ r.o.u3);have bq:=aU.o.keep l.only (D _ r.o.u4);have bd:=bc.o.keep l.only (D _ r.o.u5);have aV:=bm.o.keep l.only (D _ r.o.ug);have az:=ax.o.trans (l.only.below ax.o.size (fun g bE=>by have aq:=L.o.own g bE;have aM:=r.o.l3;have b2:=r.o.u3;omega));have ar:=Yaj aw.o l.only.size;obtain⟨aQ,a0,aC⟩:=Y.shape;obtain⟨aI,aD⟩:∃aI,aI=(ao++[c]).length:=⟨_,rfl⟩
     rw[←aD]at aC;subst aC;clear aD;have bT:aa.cell? ⟨b3,0,none⟩=some (.slice aK m aL):=by rw[aN.o];exact ap.cell 0 rfl
     have bX:=ap.free 0;have bM:=Hd ap;have bz:=Hd bq;have bK:=Hd bd;have bF:=Hd aV;have aP:=Hd Y;have ay:=Hd az;have a9:=Hd ar;clear ap bq bd aV Y az ar M J l D c3;go_wp2;go_ret;rw[af.o];have Q:Only (fun k=>k=b3) aa (aa.setCell ⟨b3,0,none⟩ (.slice aQ aI a0)):=(Yak (fun k=>k=b3) aa).setCell (p:=⟨b3,0,none⟩) rfl _;have bS:=r.o.l3;have bQ:=r.o.u3;exact⟨rfl,_,_,⟨bM.o.set 0 _,bz.o.keep Q (fun ah=>r.o.n34 ah.symm),bK.o.keep Q (fun ah=>r.o.n35 ah.symm),bF.o.keep Q (fun ah=>r.o.n3g ah.symm),aP.o.past (EntP.st B) Q (fun k bI (ah:k=b3)=>by omega),ay.o.trans (Q.below ay.o.size (fun k (ah:k=b3)=>by omega)),Yaj a9.o Q.size⟩⟩
theorem Znb {A:Nat->Prop}{B:Nat->Nat}{D w:Nat}{es:List Ent}{i:World}(j:Tab A i D w B es){b3 b4 b5 gv lo:Nat}(c:Nat)(d:c<es.length)
  (V:List Bool)(z:List Nat)(m:Value)(q:List Value)(W:World)(k:V.getD c false=true)(a:Pf B i b3 b4 b5 gv lo es.length V z m q W) :
  Calls prog 85 (#[entV B c]++Zdv b3 b4 b5) W (VisG B i b3 b4 b5 gv lo es.length (V,z)):=by
 obtain⟨e,l⟩:∃e,es[c]?=some e:=⟨_,Yaa d⟩
 obtain⟨n,h⟩:∃n,n=es.length:=⟨_,rfl⟩
 have u:=Hd a;have f:=a.vlen;have p:Hid (∀b,Below W.heap.size W b->b.cell? ⟨b4,0,none⟩=some (.slice (some ⟨gv,0,none⟩) n n)/\b.cell? ⟨B c,0,none⟩=some (.int .i64 c)/\b.cell? ⟨gv,c,none⟩=some (.bool true)):=Hd (fun b g=>by
  obtain⟨_,_,_,_,r,_,_,_,_⟩:=(j.below (a.bel.trans (YbP g a.bel.size))).ent c e l;refine⟨by rw[h];exact(a.box4.below g).cell 0 rfl,r.cell 0 rfl,?_⟩;rw[(a.row.keep (Yae (S:=fun _=>False) g) id).at_ c d,ZkR (by rw[f];exact d),k])
 have s:Below W.heap.size W W:=Yab _ _;obtain⟨v,t,x⟩:=p.o W s;have y:(0:Int)<=(c:Int):=by omega
 have C:(c:Int)<(n:Int):=by rw[h];omega
 clear j l a f k h d;go_enter func85,ntmps85
 go_upto_region 1 with fail;first
 |(go_region_held (fun W=>W.cell? ⟨b4,0,none⟩=some (.slice (some ⟨gv,0,none⟩) n n)/\W.cell? ⟨B c,0,none⟩=some (.int .i64 c)/\W.cell? ⟨gv,c,none⟩=some (.bool true))
   ((refine p.o _ ?_;(with_reducible repeat (first|exact Yab _ _|assumption|refine Zab ?_)))) (fail))
 |fail
 all_goals
  clear v t x;go_wp2;go_ret;exact⟨rfl,m,q,u.o.drew⟩
theorem Zjt {A:Nat->Prop}{B:Nat->Nat}{u t:Nat}{es:List Ent}{k:World}(p:Tab A k u t B es){b3 b4 b5 gv lo:Nat}(q:PfS k.heap.size b3 b4 b5 gv lo)(h:es.length<=1048576)(m:∀(i:Nat) (e:Ent),es[i]?=some e->e.lk.length<=9223372036854775807)
  (g:∀c,∀d∈parE es c,d<es.length):∀(f:Nat) (V:List Bool) (n:List Nat) (j:Value) (b:List Value) (d:Nat) (W:World),d<es.length->Zb2 V<=f->n.length+Zb2 V<=es.length->Pf B k b3 b4 b5 gv lo es.length V n j b W->
   Calls prog 85 (#[entV B d]++Zdv b3 b4 b5) W (VisG B k b3 b4 b5 gv lo es.length (Zaq es f (V,n) d))
 |0,V,n,j,b,d,W,a,r,_,l=>Znb p d a V n j b W (ZlZ (by rw[l.vlen];exact a) (by omega)) l
 |f+1,V,n,j,b,d,W,a,r,s,l=>Zna p q h f d es[d] (Yaa a) (m d _ (Yaa a)) g (Zjt p q h m g f) V n j b W r s l
theorem Zf2:(prog.info? 4).map (fun i=>(i.zero,i.size,i.bytes))=some (some (.bool false),1,1):=by kernel_rfl
def ZrC (B:Nat->Nat)(es:List Ent)(w:World)(e:Ending)(w':World):Prop:=∃a,e=.returned a/\Src 1 (EntP B) (fun k=>w.heap.size<=k) w' a (Zca es es.length)/\Below w.heap.size w w'
theorem Zn8 {A:Nat->Prop}{B:Nat->Nat}{aS aN:Nat}{es:List Ent}(w:World)(ao:Tab A w aS aN B es)(s:es.length<=1048576)(ag:∀(i:Nat) (e:Ent),es[i]?=some e->e.lk.length<=9223372036854775807)
  (r:∀c,∀d∈parE es c,d<es.length)(g:Nat)(O:MRow w g es.length 77 ((List.range es.length).map (entV B))) :
  Calls prog 28 #[.slice (some ⟨g,0,none⟩) es.length es.length] w (ZrC B es w):=by
 obtain⟨aE,af,Z,ai,h⟩:=info_parts Zf2;have Y:=fun W=>Zcq (P:=prog) 74 4 aE (.bool false) underlying74 af Z ai rfl es.length (by rw[h];omega) (by unfold maxLen;omega) W;have ah:=Hd Y;have aI:=Hd (fun b3 b4 b5 gv lo z=>Zjt (b3:=b3) (b4:=b4) (b5:=b5) (gv:=gv) (lo:=lo) ao z s ag r es.length);obtain⟨n,E⟩:∃n,n=es.length:=⟨_,rfl⟩
 have l:=Hd E;have ay:Hid (n<=1048576):=Hd (by rw[E];exact s);have G:=Hd O;have al:=Hd r;rw[←E]at G⊢;have M:Below w.heap.size w (w.alloc (.cells #[.slice none 0 0] 71)):=(Yab _ w).alloc (Yad _) _;obtain⟨w2,F,f,I⟩:=ah.o (w.alloc (.cells #[.slice none 0 0] 71));rw[←E]at F f;clear af Z ai h Y s ag r O ao E;go_enter func28,ntmps28
 go_upto_region 4 with fail;have h:((w2.alloc (.cells #[.slice (some ⟨w.heap.size+1,0,none⟩) n n] 74)).alloc (.cells #[.nilFunc] 105)).heap.size=w2.heap.size+2:=by simp
 have C:=Hd (Zii (W:=w2.alloc (.cells #[.slice (some ⟨w.heap.size+1,0,none⟩) n n] 74)) (b:=w2.heap.size+1) (cs:=#[.nilFunc]) (t:=105) (by simp));have Q:=Hd ((Box.new w2 #[.slice (some ⟨w.heap.size+1,0,none⟩) n n] 74).below ((Yab _ _).alloc (Yad _) (.cells #[.nilFunc] 105)));have x:Below w2.heap.size w2 ((w2.alloc (.cells #[.slice (some ⟨w.heap.size+1,0,none⟩) n n] 74)).alloc (.cells #[.nilFunc] 105)):=((Yab _ w2).alloc (Yad _) _).alloc (by simp) _;have D:(w.alloc (.cells #[.slice none 0 0] 71)).heap.size=w.heap.size+1:=by simp
 have aa:=(Box.new w #[.slice none 0 0] 71).below I;have ak:=Hd (aa.below x);have U:=Hd (f.keep (Yae (S:=fun _=>False) x) id);have q:=M.trans (I.mono M.size);have y:=Hd (q.trans (x.mono q.size));have m:Hid (w.heap.size+2<=w2.heap.size):=Hd (by have:=f.lt;rw[D]at this;omega);rw[D]at U;clear M I x aa q f F ah D;generalize aM:(w2.alloc (.cells #[.slice (some ⟨w.heap.size+1,0,none⟩) n n] 74)).alloc (.cells #[.nilFunc] 105)=H at C Q ak U y h⊢;clear aM;have R:=C.o.cell 0 rfl;have aD:=C.o.free 0;generalize w2.heap.size=a at Q C m h R aD⊢;have aw:=Hd h;clear h;have X:Pf B w w.heap.size a (a+1) (w.heap.size+1) (a+2) es.length (List.replicate n false) [] (.slice none 0 0) [] (H.setCell ⟨a+1,0,none⟩ (.func (.func 85) #[] (Zdv w.heap.size a (a+1)))):=by
  have V:Only (fun k=>k=a+1) H (H.setCell ⟨a+1,0,none⟩ (.func (.func 85) #[] (Zdv w.heap.size a (a+1)))):=(Yak (fun k=>k=a+1) H).setCell (p:=⟨a+1,0,none⟩) rfl _;have aG:=m.o;have aj:=y.o;refine⟨ak.o.keep V (fun am=>by omega),?_,C.o.set 0 _,?_,TRow.nil _ _,aj.trans (V.below aj.size (fun k (am:k=a+1)=>by omega)),?_⟩
  ·rw[←l.o];exact Q.o.keep V (fun am=>by omega)
  ·rw[Ycm,←l.o];exact U.o.keep V (fun am=>by omega)
  ·rw[World.size_setCell,aw.o];exact Yad _
 have z:PfS w.heap.size w.heap.size a (a+1) (w.heap.size+1) (a+2):=by
  have aG:=m.o;constructor<;>omega
 have aO:=Hd z;have ad:=Hd X;have ax:Hid (Below w.heap.size w (H.setCell ⟨a+1,0,none⟩ (.func (.func 85) #[] (Zdv w.heap.size a (a+1))))):=Hd (y.o.setCell (p:=⟨a+1,0,none⟩) (by have:=m.o;show w.heap.size<=a+1;omega) _);clear z X;go_upto_region 5 with fail;refine Zau (fun W=>∃N K,Pf B w w.heap.size a (a+1) (w.heap.size+1) (a+2) es.length (List.replicate n false) [] N K W) ⟨_,_,ad.o⟩ ?_;rintro aT⟨aB,av,ab⟩;have aC:=Hd ab;clear ab ad ax ak Q C U y aw R aD;have aR:n<=1048576:=ay.o;go_wp2;go_loopw [14] (fun J wr=>∃(k:Nat) (N:Value) (K:List Value),k<=n/\J=.int .i64 k/\Pf B w w.heap.size a (a+1) (w.heap.size+1) (a+2) es.length (((List.range es.length).take k).foldl (Zaq es es.length) (List.replicate n false,[])).1 (((List.range es.length).take k).foldl (Zaq es es.length) (List.replicate n false,[])).2 N K wr) (fun J _=>n-(intOf J).toNat)
 case atStart=>exact⟨0,aB,av,Yao _,rfl,aC.o⟩
 case round=>
  obtain⟨k,N,K,aW,rfl,au⟩:=hrel;have j:=Hd au;clear au;by_cases u:k<n
  ·have aJ:wr.cell? ⟨g,k,none⟩=some (entV B k):=by
    rw[(G.o.keep (Yae (S:=fun _=>False) j.o.bel) id).at_ k u,Yav,Ybl (by first|exact u|(rw[←l.o];exact u))];rfl
   have R:wr.cell? ⟨a+1,0,none⟩=some (.func (.func 85) #[] (Zdv w.heap.size a (a+1))):=j.o.box5.cell 0 rfl;have aQ:(0:Int)<=(k:Int):=by omega
   have aP:(k:Int)<(n:Int):=by omega
   have L:k<es.length:=by rw[←l.o];exact u
   have ac:(List.range es.length)[k]?=some k:=Ybl L;have v:Hid (Calls prog 85 (#[entV B k]++Zdv w.heap.size a (a+1)) wr (VisG B w w.heap.size a (a+1) (w.heap.size+1) (a+2) es.length (((List.range es.length).take (k+1)).foldl (Zaq es es.length) (List.replicate n false,[])))):=Hd (by
    rw[Zds (Zaq es es.length) ac];have aK:=j.o.vlen;refine aI.o w.heap.size a (a+1) (w.heap.size+1) (a+2) aO.o _ _ N K k wr L (Yaj (ZdZ _) (Ycx aK)) ?_ j.o;have T:=ZdV al.o es.length ((List.range es.length).take k) (List.replicate n false,[]) (by simp[l.o]) (fun d aH=>YbM.1 (Ybg aH));refine Yaj T ?_;have aA:=ZdZ (List.replicate n false);rw[Ybm]at aA;have aF:=l.o;show 0+Zb2 (List.replicate n false)<=es.length;omega)
   clear L ac;go_wp2_with fail;refine v.o.mono ?_;rintro aV aU⟨rfl,ap,ar,ae⟩;have aq:=Hd ae;clear ae v aJ R;go_wp2;go_roundw
   case rel=>exact⟨k+1,ap,ar,by omega,by go_num,aq.o⟩
   case measure=>simp[intOf];omega
  ·obtain rfl:k=n:=by omega
   have aL:(List.range es.length).take k=List.range es.length:=Yaz (by rw[Yb7,l.o];exact Yad _);rw[aL]at j;have az:=j.o.ord.shape;obtain⟨aX,aZ,rfl⟩:=az;have aY:=j.o.box3.cell 0 rfl;go_wp2;go_ret;refine⟨_,rfl,?_,j.o.bel⟩;have T:=(EntP.st B).srcMono (A':=fun k=>w.heap.size<=k) (j.o.ord.src (EntP.st B)) (fun am _ z=>by have aA:a+2<=am:=z;have aF:=m.o;show w.heap.size<=am;omega);unfold Zca;rw[←l.o]at T⊢;exact T
abbrev Za5:Nat:=9223372036854775807
structure Grp where
 met:List Nat
 cnt:Nat
 opn:List Nat
 loop:List Bool
def intV (z:Nat):Value:=.int .i64 z
def ZbW (a:Bool)(s:Grp)(l:List Nat):Grp:=⟨l.foldl (fun m c=>m.set c Za5) s.met,s.cnt,s.opn,l.foldl (fun m c=>m.set c a) s.loop⟩
def Zb0 (s:Grp)(first:Nat):Grp:=
 let t:=ZbW (decide (1<(s.opn.drop first).length)) s (s.opn.drop first)
 ⟨t.met,t.cnt,s.opn.take first,t.loop⟩
structure GrS (lo0 gb gm gl lo:Nat):Prop where
 lb:lo0<=gb
 lm:lo0<=gm
 ll:lo0<=gl
 ub:gb<lo
 um:gm<lo
 ul:gl<lo
 bm:gb≠gm
 bl:gb≠gl
 ml:gm≠gl
structure Gr (B:Nat->Nat) (w0:World) (gb gm gl lo n:Nat) (s:Grp) (ov:Value) (us:List Value) (W:World):Prop where
 box:Box W gb #[.slice (some ⟨gm,0,none⟩) n n,.int .i64 s.cnt,ov,.slice (some ⟨gl,0,none⟩) n n] 103
 met:MRow W gm n 3 (s.met.map intV)
 loop:MRow W gl n 4 (s.loop.map .bool)
 opn:TRow 1 77 (EntP B) lo W ov s.opn us
 bel:Below w0.heap.size w0 W
 low:lo<=W.heap.size
theorem Gr.keep {B:Nat->Nat}{c:World}{gb gm gl lo n:Nat}{s:Grp}{h:Value}{d:List Value}{W g:World}(b:Gr B c gb gm gl lo n s h d W)(a:Below W.heap.size W g):Gr B c gb gm gl lo n s h d g:=by
 have f:=Yae (S:=fun _=>False) a;exact⟨b.box.below a,b.met.keep f id,b.loop.keep f id,b.opn.below (EntP.st B) a,b.bel.trans (a.mono b.bel.size),Yaj b.low a.size⟩
theorem Gr.drew {B:Nat->Nat}{b:World}{gb gm gl lo n:Nat}{s:Grp}{c:Value}{a:List Value}{W:World}(d:Gr B b gb gm gl lo n s c a W):Gr B b gb gm gl lo n s c a W.drew:=d.keep (Zab (Yab _ _))
theorem Gr.note {B:Nat->Nat}{b:World}{gb gm gl lo n:Nat}{s:Grp}{g:Value}{f:List Value}{W:World}(d:Gr B b gb gm gl lo n s g f W)(h:GrS b.heap.size gb gm gl lo)(c z:Nat) :
  Gr B b gb gm gl lo n ⟨s.met.set c z,s.cnt,s.opn,s.loop⟩ g f (W.setCell ⟨gm,c,none⟩ (intV z)):=by
 have a:Only (fun k=>k=gm) W (W.setCell ⟨gm,c,none⟩ (intV z)):=(Yak (fun k=>k=gm) W).setCell (p:=⟨gm,c,none⟩) rfl _;refine⟨d.box.keep a h.bm,?_,d.loop.keep a (fun e=>h.ml e.symm),d.opn.past (EntP.st B) a (fun k i (e:k=gm)=>by have:=h.um;omega),d.bel.trans (a.below d.bel.size (fun k (e:k=gm)=>by have:=h.lm;omega)),Yaj d.low a.size⟩;have:=d.met.set c (intV z);rw[List.map_set];exact this
theorem Gr.flag {B:Nat->Nat}{d:World}{gb gm gl lo n:Nat}{s:Grp}{h:Value}{g:List Value}{W:World}(f:Gr B d gb gm gl lo n s h g W)(i:GrS d.heap.size gb gm gl lo)(c:Nat)(b:Bool) :
  Gr B d gb gm gl lo n ⟨s.met,s.cnt,s.opn,s.loop.set c b⟩ h g (W.setCell ⟨gl,c,none⟩ (.bool b)):=by
 have a:Only (fun k=>k=gl) W (W.setCell ⟨gl,c,none⟩ (.bool b)):=(Yak (fun k=>k=gl) W).setCell (p:=⟨gl,c,none⟩) rfl _;refine⟨f.box.keep a i.bl,f.met.keep a i.ml,?_,f.opn.past (EntP.st B) a (fun k j (e:k=gl)=>by have:=i.ul;omega),f.bel.trans (a.below f.bel.size (fun k (e:k=gl)=>by have:=i.ll;omega)),Yaj f.low a.size⟩;have:=f.loop.set c (.bool b);rw[List.map_set];exact this
theorem ZjG {a:Bool}{s:Grp}{l:List Nat}{k c:Nat}(b:l[k]?=some c):ZbW a s (l.take (k+1))=⟨(ZbW a s (l.take k)).met.set c Za5,s.cnt,s.opn,(ZbW a s (l.take k)).loop.set c a⟩:=by
 unfold ZbW;rw[Zds (fun(m:List Nat) c=>m.set c Za5) b,Zds (fun(m:List Bool) c=>m.set c a) b]
theorem TRow.cut {α:Type}{n:Nat}{t:TypeId}{R:Zao α}{lo:Nat}{w:World}{g c len:Nat}{m:List α}{a:List Value}(f:TRow n t R lo w (.slice (some ⟨g,0,none⟩) len c) m a)(D:len=m.length)(k:Nat)(l:k<=m.length) :
  TRow n t R lo w (.slice (some ⟨g,0,none⟩) k c) (m.take k) (a.take k):=by
 subst D;have r:(m.take k).length=k:=by rw[YaA];omega
 refine⟨?_,f.own,by rw[YaA,YaA,f.len],fun u b=>f.size u (Ybg b),fun G x j=>?_⟩
 ·rw[r];rcases f.row.2 with⟨h,_⟩|⟨F,C,z,h,A,B,E,v,q,i⟩
  ·simp at h
  ·simp only[Value.slice.injEq,Ya1,Ybz,and_true,true_and]at h;obtain⟨rfl,rfl⟩:=h;have y:ZaO (a.take k)=(ZaO a).take (k*n):=by
    have e:a=a.take k++a.drop k:=(Ya5 k a).symm;have d:(ZaO (a.take k)).length=k*n:=by
     rw[ZcE _ (fun u b=>f.size u (Ybg b)),YaA,f.len];rw[Ybe l]
    have p:ZaO a=ZaO (a.take k)++ZaO (a.drop k):=by rw[←ZeA,Ya5]
    rw[p,YbE (l₁:=ZaO (a.take k)) (Ycx d.symm)];exact(Yaz (Ycx d)).symm
   refine⟨?_,.inr ⟨g,c,z,rfl,A,B,by omega,v,q,?_⟩⟩
   ·rw[ZcE _ (fun u b=>f.size u (Ybg b)),YaA,f.len,Ybe l]
   ·rw[y,←i,YcC,Ybe (YcB n l)]
 ·rw[YbQ]at j;split at j
  ·rename_i s;obtain⟨u,d,p⟩:=f.each G x j;exact⟨u,by rw[YbQ,Yay s];exact d,p⟩
  ·cases j
