/- laws -/
import Derived.Test.YtegljjbclladdaaGreatDoorK20
set_option maxRecDepth 100000
set_option maxHeartbeats 16000000
namespace Go.Proofs.YtegljjbclladdaaGreatDoor
open Go.RowKit Tryz
def Zbe:List UInt8:=[70,97,117,108,116]
def Zjv:List UInt8:=[119,104,97,116]
def Zjn:List UInt8:=[116,101,120,116]
def faultsL:List (List UInt8):=[[78,117,108,108,70,97,117,108,116],[73,110,100,101,120,70,97,117,108,116],[67,97,115,116,70,97,117,108,116],[90,101,114,111,70,97,117,108,116],
 [82,111,111,109,70,97,117,108,116],[67,97,108,108,70,97,117,108,116]]
def objC:Cls:=⟨objL,[],[],false,false,false,[],[]⟩
def Zb8:Cls:=⟨Zbe,objL,[],false,false,false,[⟨Zjv,Zjn,false⟩],[]⟩
def oneF (n:List UInt8):Cls:=⟨n,Zbe,[],false,false,true,[],[]⟩
def givenL:List Cls:=objC::Zb8::faultsL.map oneF
def faultCells:List Value:=faultsL.map fun n=>.string (S n)
def Zce (k:Nat):List UInt8:=faultsL.getD k []
def FaultTab (w:World):Prop:=w.rangeAt 0 0 faultCells
theorem FaultTab.keep {w w':World}(d:FaultTab w)(a:Below w.heap.size w w'):FaultTab w':=fun c v b=>
 (Yae (S:=fun _=>False) a).cell (d c v b) id
theorem Ziw (w:World):(Instr.index 131 (.agg faultCells.toArray) (.int .i64 0)).run prog w=.ok (.string (S (Zce 0))) w:=by kernel_rfl
theorem Zix (w:World):(Instr.index 131 (.agg faultCells.toArray) (.int .i64 1)).run prog w=.ok (.string (S (Zce 1))) w:=by kernel_rfl
theorem Ziy (w:World):(Instr.index 131 (.agg faultCells.toArray) (.int .i64 2)).run prog w=.ok (.string (S (Zce 2))) w:=by kernel_rfl
theorem Ziz (w:World):(Instr.index 131 (.agg faultCells.toArray) (.int .i64 3)).run prog w=.ok (.string (S (Zce 3))) w:=by kernel_rfl
theorem ZiA (w:World):(Instr.index 131 (.agg faultCells.toArray) (.int .i64 4)).run prog w=.ok (.string (S (Zce 4))) w:=by kernel_rfl
theorem ZiB (w:World):(Instr.index 131 (.agg faultCells.toArray) (.int .i64 5)).run prog w=.ok (.string (S (Zce 5))) w:=by kernel_rfl
theorem ZjR (k:Nat)(a:k<6)(w:World):(Instr.index 131 (.agg faultCells.toArray) (.int .i64 (k:Nat))).run prog w=.ok (.string (S (Zce k))) w:=
 match k,a with
 |0,_=>Ziw w
 |1,_=>Zix w
 |2,_=>Ziy w
 |3,_=>Ziz w
 |4,_=>ZiA w
 |5,_=>ZiB w
theorem ZjZ:(prog.info? 131).map (·.size)=some faultCells.length:=by kernel_rfl
theorem Zhz:(prog.info? 70).map (fun i=>(i.zero,i.size,i.bytes))=some (some (.agg #[.string ⟨#[]⟩,.string ⟨#[]⟩,.slice none 0 0,.bool false,.bool false,.bool false,.slice none 0 0,.slice none 0 0]),8,112):=by kernel_rfl
def objV:Value:=.agg #[.string (S objL),.string ⟨#[]⟩,.slice none 0 0,.bool false,.bool false,.bool false,.slice none 0 0,.slice none 0 0]
def Zs9 (b:Nat):Value:=.agg #[.string (S Zbe),.string (S objL),.slice none 0 0,.bool false,.bool false,.bool false,.slice (some ⟨b,0,none⟩) 1 1,.slice none 0 0]
def oneV (n:List UInt8):Value:=.agg #[.string (S n),.string (S Zbe),.slice none 0 0,.bool false,.bool false,.bool true,.slice none 0 0,.slice none 0 0]
theorem Zde {α:Type}{n:Nat}{R:Zao α}{A:Nat->Prop}{w:World}:Src n R A w (.slice none 0 0) []:=.inl ⟨_,_,rfl,rfl⟩
theorem objR (A:Nat->Prop)(w:World):ClsR A w objC objV:=⟨_,_,_,rfl,Zde,Zde,Zde⟩
theorem oneR (A:Nat->Prop)(w:World)(n:List UInt8):ClsR A w (oneF n) (oneV n):=⟨_,_,_,rfl,Zde,Zde,Zde⟩
theorem ZpT (w:World):TRow 8 70 ClsR w.heap.size ((w.alloc (.cells #[.string (S Zjv),.string (S Zjn),.bool false] 82)).alloc (.cells #[.string (S objL),.string ⟨#[]⟩,.slice none 0 0,.bool false,.bool false,.bool false,.slice none 0 0,.slice none 0 0,
   .string (S Zbe),.string (S objL),.slice none 0 0,.bool false,.bool false,.bool false,.slice (some ⟨w.heap.size,0,none⟩) 1 1,.slice none 0 0] 70)) (.slice (some ⟨w.heap.size+1,0,none⟩) 2 2) [objC,Zb8] [objV,Zs9 w.heap.size]:=by
 have a:(w.alloc (.cells #[.string (S Zjv),.string (S Zjn),.bool false] 82)).heap.size=w.heap.size+1:=by simp
 have m:=World.ownsRow_lit (base:=0) (e:=70) (size:=8) (w.alloc (.cells #[.string (S Zjv),.string (S Zjn),.bool false] 82)) #[.string (S objL),.string ⟨#[]⟩,.slice none 0 0,.bool false,.bool false,.bool false,.slice none 0 0,.slice none 0 0,
   .string (S Zbe),.string (S objL),.slice none 0 0,.bool false,.bool false,.bool false,.slice (some ⟨w.heap.size,0,none⟩) 1 1,.slice none 0 0] 2 (Yao _) (by decide) rfl
 rw[a]at m;have c:Below (w.heap.size+1) (w.alloc (.cells #[.string (S Zjv),.string (S Zjn),.bool false] 82)) ((w.alloc (.cells #[.string (S Zjv),.string (S Zjn),.bool false] 82)).alloc (.cells #[.string (S objL),.string ⟨#[]⟩,.slice none 0 0,.bool false,.bool false,.bool false,.slice none 0 0,.slice none 0 0,
   .string (S Zbe),.string (S objL),.slice none 0 0,.bool false,.bool false,.bool false,.slice (some ⟨w.heap.size,0,none⟩) 1 1,.slice none 0 0] 70)):=(Yab _ _).alloc (Ycx a.symm) _
 have h:=Box.new w #[.string (S Zjv),.string (S Zjn),.bool false] 82;rw[←a]at c;have b:=h.below c;refine⟨m,fun g l=>?_,rfl,fun u d=>?_,fun k x hk=>?_⟩
 ·simp[Value.ownBlock]at l;omega
 ·simp at d;rcases d with rfl|rfl<;>rfl
 ·match k,hk with
  |0,hk=>
   simp at hk;subst hk;exact⟨_,rfl,objR _ _⟩
  |1,hk=>
   simp at hk;subst hk;refine⟨_,rfl,_,_,_,rfl,Zde,.inr ⟨w.heap.size,0,1,rfl,⟨⟨Yad _,fun e=>?_⟩,b.lt,by decide,by decide⟩,fun j n hj=>?_⟩,Zde⟩
   ·simp[Value.ownBlock]at e
   ·match j,hj with
    |0,hj=>
     obtain rfl:_=n:=Yac hj;refine⟨_,rfl,rfl,fun i u f=>?_⟩;rw[Ycc,Ya6];exact b.cell i f
    |j+1,hj=>exact absurd hj (by simp[Zb8])
  |k+2,hk=>simp at hk
def Znd (w:World)(e:Ending)(w':World):Prop:=∃v a,e=.returned v/\TRow 8 70 ClsR w.heap.size w' v givenL a/\Below w.heap.size w w'
theorem ZgU (k:Nat)(a:k<6):objC::Zb8::((faultsL.take k).map oneF++[oneF (Zce k)])=objC::Zb8::(faultsL.take (k+1)).map oneF:=by
 have b:faultsL.take (k+1)=faultsL.take k++[Zce k]:=by
  rw[YaK];unfold Zce;rw[Yap,Yaa (show k<faultsL.length from a)];rfl
 rw[b,Ya9];rfl
theorem Zob (w:World)(D:FaultTab w):Calls prog 75 #[] w (Znd w):=by
 obtain⟨K,G,H,I,C⟩:=info_parts Zhz;have T:=Hd ZjZ;have O:=Hd D;have J:=Hd (ZpT w);clear D;go_enter func75,ntmps75
 go_upto_region 2 with fail;refine wp_region_lit ?_;refine wpList_load_mid (by rfl) 131 _ (by rfl) 0 0 (by rfl) faultCells _ (O.o.keep (((Yab _ w).alloc (Yad _) _).alloc (by simp) _)) underlying131 (by rfl) T.o ?_;go_wp2_with fail;go_loopw [1,10] (fun N l wr=>∃(k:Nat) (z:List Value),k<=6/\l=.int .i64 k/\TRow 8 70 ClsR w.heap.size wr N (objC::Zb8::(faultsL.take k).map oneF) z/\Below w.heap.size w wr) (fun _ l _=>6-(intOf l).toNat)
 case atStart=>exact⟨0,_,Yao _,rfl,J.o,((Yab _ w).alloc (Yad _) _).alloc (by simp) _⟩
 case round=>
  obtain⟨k,z,R,rfl,j,h⟩:=hrel;have v:=Hd j;have y:=Hd h;have b:(objC::Zb8::(faultsL.take k).map oneF).length=k+2:=by simp[List.length_take,show faultsL.length=6 from rfl,Nat.min_eq_left R]
  obtain⟨U,Q,rfl⟩:=j.shape;rw[b];have d:=Hd b;clear j h b;by_cases x:k<6
  ·have W:(k:Int)<6:=by omega
   have X:(0:Int)<=(k:Int):=by omega
   have t:=ZjR k x;have s:=Hd (ZgU k x);generalize Zce k=a at t s;have n:Below wr.heap.size wr (wr.alloc (.cells #[.string (S a),.string (S Zbe),.slice none 0 0,.bool false,.bool false,.bool true,.slice none 0 0,.slice none 0 0] 70)):=(Yab _ wr).alloc (Yad _) _;have i:=Hd (v.o.below ClsR.st n);have B:=Hd (Box.new wr #[.string (S a),.string (S Zbe),.slice none 0 0,.bool false,.bool false,.bool true,.slice none 0 0,.slice none 0 0] 70);have r:=Hd i.o.row;rw[d.o]at r;have p:=Hd (y.o.trans (n.mono y.o.size));clear n;go_wp2_with (at_builtin;refine Zbo _ rfl _ _ 33 rfl 70 K (.agg #[.string ⟨#[]⟩,.string ⟨#[]⟩,.slice none 0 0,.bool false,.bool false,.bool false,.slice none 0 0,.slice none 0 0]) 8 112 underlying33 G H I C rfl (by decide) _ _ _ rfl r.o ⟨wr.heap.size,0,none⟩ 1 1 [.string (S a),.string (S Zbe),.slice none 0 0,.bool false,.bool false,.bool true,.slice none 0 0,.slice none 0 0] rfl rfl (by intro Z aa V;rw[Ybn,Ya6];exact B.o.cell Z (by rw[←V];simp)) (by intro aa F;simp at F;rcases F with rfl|rfl|rfl|rfl|rfl|rfl|rfl|rfl<;>rfl) ?c3 ?c4 ?_)
   case c3=>unfold maxLen;omega
   case c4=>omega
   intro L M f c;have q:Grew (wr.alloc (.cells #[.string (S a),.string (S Zbe),.slice none 0 0,.bool false,.bool false,.bool true,.slice none 0 0,.slice none 0 0] 70)) (.slice U (objC::Zb8::(faultsL.take k).map oneF).length Q) M L:=by rw[d.o];exact c
   have m:=i.o.snoc ClsR.st q p.o.size (u:=oneV a) rfl (oneR _ _ a) (by rw[d.o];exact f);rw[show(objC::Zb8::(faultsL.take k).map oneF)++[oneF a]=objC::Zb8::((faultsL.take k).map oneF++[oneF a])from rfl,s.o]at m;have E:=Hd m;have A:=Hd (p.o.trans (q.only.below p.o.size (fun g P=>i.o.own g P)));clear m c f q t;go_wp2;go_roundw
   case rel=>exact⟨k+1,_,by omega,by go_num,E.o,A.o⟩
   case measure=>simp[intOf];omega
  ·obtain rfl:k=6:=by omega
   go_wp2;go_ret;exact⟨_,z,rfl,by have Y:=v.o;rw[d.o]at Y;exact Y,y.o⟩
theorem Zii {W:World}{b:Nat}{cs:Array Value}{t:TypeId}(a:W.heap.size=b):Box (W.alloc (.cells cs t)) b cs t:=by
 subst a;exact Box.new W cs t
theorem ZlK (k:Nat)(a:k<6):faultCells.toArray[k]?=some (.string (S (Zce k))):=
 match k,a with
 |0,_=>rfl
 |1,_=>rfl
 |2,_=>rfl
 |3,_=>rfl
 |4,_=>rfl
 |5,_=>rfl
theorem ZmV (w:World):Calls prog 30 #[] w (Znd w):=by
 obtain⟨U,O,P,Q,I⟩:=info_parts Zhz;have R:=Hd (ZpT w);go_enter func30,ntmps30
 go_wp2_with fail;go_loopw [1,3] (fun J n wr=>∃(k:Nat) (D:List Value),k<=6/\n=.int .i64 k/\TRow 8 70 ClsR w.heap.size wr J (objC::Zb8::(faultsL.take k).map oneF) D/\Below w.heap.size w wr/\Box wr (w.heap.size+2) faultCells.toArray 9/\J.ownBlock≠some (w.heap.size+2)) (fun _ n _=>6-(intOf n).toNat)
 case atStart=>exact⟨0,_,Yao _,rfl,R.o.below ClsR.st ((Yab _ _).alloc (Yad _) _),(((Yab _ w).alloc (Yad _) _).alloc (by simp) _).alloc (by simp;omega) _,(Zii (cs:=faultCells.toArray) (by simp)),(by simp[Value.ownBlock])⟩
 case round=>
  obtain⟨k,D,Y,rfl,m,j,A,t⟩:=hrel;have K:=Hd A;have M:=Hd t;have y:=Hd m;have B:=Hd j;have c:(objC::Zb8::(faultsL.take k).map oneF).length=k+2:=by simp[List.length_take,show faultsL.length=6 from rfl,Nat.min_eq_left Y]
  obtain⟨Z,X,rfl⟩:=m.shape;rw[c];have f:=Hd c;clear m j c A t;by_cases z:k<6
  ·have ab:(k:Int)<6:=by omega
   have ac:(0:Int)<=(k:Int):=by omega
   have x:=K.o.cell k (ZlK k z);have s:=Hd (ZgU k z);generalize Zce k=a at x s;have h:Below wr.heap.size wr (wr.alloc (.cells #[.string (S a),.string (S Zbe),.slice none 0 0,.bool false,.bool false,.bool true,.slice none 0 0,.slice none 0 0] 70)):=(Yab _ wr).alloc (Yad _) _;have l:=Hd (y.o.below ClsR.st h);have H:=Hd (Box.new wr #[.string (S a),.string (S Zbe),.slice none 0 0,.bool false,.bool false,.bool true,.slice none 0 0,.slice none 0 0] 70);have r:=Hd l.o.row;rw[f.o]at r;have q:=Hd (B.o.trans (h.mono B.o.size));have v:=Hd (K.o.below h);clear h;go_wp2_with (at_builtin;refine Zbo _ rfl _ _ 33 rfl 70 U (.agg #[.string ⟨#[]⟩,.string ⟨#[]⟩,.slice none 0 0,.bool false,.bool false,.bool false,.slice none 0 0,.slice none 0 0]) 8 112 underlying33 O P Q I rfl (by decide) _ _ _ rfl r.o ⟨wr.heap.size,0,none⟩ 1 1 [.string (S a),.string (S Zbe),.slice none 0 0,.bool false,.bool false,.bool true,.slice none 0 0,.slice none 0 0] rfl rfl (by intro af ah aa;rw[Ybn,Ya6];exact H.o.cell af (by rw[←aa];simp)) (by intro ah N;simp at N;rcases N with rfl|rfl|rfl|rfl|rfl|rfl|rfl|rfl<;>rfl) ?c3 ?c4 ?_)
   case c3=>unfold maxLen;omega
   case c4=>omega
   intro G V i d;have b:Grew (wr.alloc (.cells #[.string (S a),.string (S Zbe),.slice none 0 0,.bool false,.bool false,.bool true,.slice none 0 0,.slice none 0 0] 70)) (.slice Z (objC::Zb8::(faultsL.take k).map oneF).length X) V G:=by rw[f.o];exact d
   have p:=l.o.snoc ClsR.st b q.o.size (u:=oneV a) rfl (oneR _ _ a) (by rw[f.o];exact i);rw[show(objC::Zb8::(faultsL.take k).map oneF)++[oneF a]=objC::Zb8::((faultsL.take k).map oneF++[oneF a])from rfl,s.o]at p;have L:=Hd p;have E:=Hd (q.o.trans (b.only.below q.o.size (fun g W=>l.o.own g W)));have F:=Hd (v.o.keep b.only (fun e=>M.o e));have T:Hid (G.ownBlock≠some (w.heap.size+2)):=Hd (fun e=>by
    rcases b.came with C|C
    ·exact M.o (C.symm.trans e)
    ·have ae:=C _ e;have ag:=v.o.lt;omega)
   clear p d i b x;go_wp2;go_roundw
   case rel=>exact⟨k+1,_,by omega,by go_num,L.o,E.o,F.o,T.o⟩
   case measure=>simp[intOf];omega
  ·obtain rfl:k=6:=by omega
   go_wp2;go_ret;exact⟨_,D,rfl,by have ad:=y.o;rw[f.o]at ad;exact ad,B.o⟩
def offT (s b a:Nat)(B:Nat->Nat)(n:Nat):Nat->Prop:=fun k=>s<=k/\k≠b/\k≠a/\∀i,i<n->k≠B i
structure Tb (s:Nat) (w:World) (T mb:Nat) (B:Nat->Nat) (es:List Ent) (u:Nat):Prop where
 tab:Tab (offT s T mb B es.length) w T mb B es
 tT:s<=T
 tM:s<=mb
 tB:∀i,i<es.length->s<=B i
 up:∀(i:Nat) (e:Ent) (j:Nat),es[i]?=some e->e.up=some j->j<es.length
 lk:∀(i:Nat) (e:Ent) (j:Nat),es[i]?=some e->j∈e.lk->j<es.length
 raw:∀(i:Nat) (e:Ent),u<=i->es[i]?=some e->e.up=none/\e.lk=[]/\w.cell? ⟨B i,10,none⟩=some (.slice none 0 0)
theorem Tb.keep {s:Nat}{S:Nat->Prop}{w w':World}{t g:Nat}{B:Nat->Nat}{es:List Ent}{u:Nat}(a:Tb s w t g B es u)(q:Only S w w')(j:∀k,s<=k->k<w.heap.size->¬S k):Tb s w' t g B es u:=by
 have c:Only (fun k=>k<s) w w':=q.mono (fun i b p=>by
  rcases YaC i s with d|d
  ·exact d
  ·exact absurd p (j i d b))
 have h:∀i,i<es.length->¬B i<s:=fun i b f=>by have:=a.tB i b;omega
 refine⟨⟨a.tab.box.keep c (fun f=>by have:=a.tT;omega),a.tab.map.keep c (fun f=>by have:=a.tM;omega),fun i e b=>?_,a.tab.inj,a.tab.offA,a.tab.offT,a.tab.offM,a.tab.T_A,a.tab.M_A,a.tab.T_M⟩,a.tT,a.tM,a.tB,a.up,a.lk,fun i e l b=>?_⟩
 ·exact(a.tab.ent i e b).keep c (fun k r f=>by have:=r.1;omega) (h i (Yag.1 b).1)
 ·obtain⟨d,n,m⟩:=a.raw i e l b;exact⟨d,n,c.cell m (h i (Yag.1 b).1)⟩
theorem Tb.below {s:Nat}{w w':World}{c a:Nat}{B:Nat->Nat}{es:List Ent}{u:Nat}(d:Tb s w c a B es u)(b:Below w.heap.size w w'):Tb s w' c a B es u:=
 d.keep (Yae (S:=fun _=>False) b) (fun _ _ _=>id)
theorem Src.congr {α:Type}{n:Nat}{R R':Zao α}{A:Nat->Prop}{w:World}{sv:Value}{l:List α}(m:Src n R A w sv l)(f:∀x∈l,∀v,R A w x v->R' A w x v):Src n R' A w sv l:=by
 rcases m with m|⟨b,o,d,c,j,h⟩
 ·exact .inl m
 ·refine .inr ⟨b,o,d,c,j,fun k x a=>?_⟩;obtain⟨v,g,i⟩:=h k x a;exact⟨v,f x (Yaf a) v g,i⟩
theorem Zg4 {B a:Nat->Nat}{o:Option Nat}(c:∀b,o=some b->a b=B b):ptrV a o=ptrV B o:=by
 cases o with
 |none=>rfl
 |some b=>rw[Zbv,Zbv,c b rfl]
theorem EntIs.congr {A:Nat->Prop}{B a:Nat->Nat}{w:World}{i:Nat}{e:Ent}(s:EntIs A B w i e)(r:a i=B i)(f:∀b,e.up=some b->a b=B b)(q:∀b∈e.lk,a b=B b):EntIs A a w i e:=by
 obtain⟨k,l,p,sv,d,c,m,h,n⟩:=s;refine⟨k,l,p,sv,?_,c,m,h,n.congr (fun x g v j=>?_)⟩
 ·unfold entC;rw[r,Zg4 f];exact d
 ·show v=.pointer (some ⟨a x,0,none⟩);rw[q x g];exact j
theorem EntIs.mono {A A':Nat->Prop}{B:Nat->Nat}{w:World}{i:Nat}{e:Ent}(m:EntIs A B w i e)(a:∀k,k<w.heap.size->A k->A' k):EntIs A' B w i e:=by
 obtain⟨g,f,l,sv,c,b,h,d,j⟩:=m;exact⟨g,f,l,sv,c,StrR.st.srcMono b a,FldR.st.srcMono h a,MthR.st.srcMono d a,(EntP.st B).srcMono j a⟩
theorem Zdw {es:List Ent}{n:List UInt8}{e:Ent}:Zad (es++[e]) n=match Zad es n with|some i=>some i|none=>if e.cls.name==n then some es.length else none:=by
 unfold Zad;rw[YcA];cases b:es.findIdx? (fun e=>e.cls.name==n)with
 |some i=>simp
 |none=>
  by_cases a:e.cls.name==n
  ·simp[List.findIdx?_cons,a]
  ·simp[List.findIdx?_cons,a]
def addB (B:Nat->Nat)(n b:Nat):Nat->Nat:=fun i=>if i=n then b else B i
theorem Zhi {B:Nat->Nat}{n b i:Nat}(a:i<n):addB B n b i=B i:=by unfold addB;rw[Yar (by omega)]
theorem ZbU {B:Nat->Nat}{n b:Nat}:addB B n b n=b:=by unfold addB;rw[Yay rfl]
theorem Tb.push {s:Nat}{w:World}{A d:Nat}{B:Nat->Nat}{es:List Ent}{u:Nat}(z:Tb s w A d B es u)(c:Cls)(y x v:Value)(P:Zad es c.name=none)(ap:c.name.length<=9223372036854775807)(aB:es.length<9223372036854775807)(ay:s<=w.heap.size)
  (ai:Src 1 StrR (offT s A d B es.length) w y c.like)(X:Src 3 FldR (offT s A d B es.length) w x c.flds)(ac:Src 7 MthR (offT s A d B es.length) w v c.mths) :
  (Instr.mapUpdate 62 (.map (some d)) (.string (S c.name)) (.pointer (some ⟨w.heap.size,0,none⟩))).run prog (w.alloc (.cells (entC B es.length ⟨c,none,[]⟩ y x v (.slice none 0 0)) 80)) =
    .ok () (putW prog 62 (.map (some d)) (.string (S c.name)) (.pointer (some ⟨w.heap.size,0,none⟩)) (w.alloc (.cells (entC B es.length ⟨c,none,[]⟩ y x v (.slice none 0 0)) 80)))/\
   Tb s (putW prog 62 (.map (some d)) (.string (S c.name)) (.pointer (some ⟨w.heap.size,0,none⟩)) (w.alloc (.cells (entC B es.length ⟨c,none,[]⟩ y x v (.slice none 0 0)) 80))) A d (addB B es.length w.heap.size) (es++[⟨c,none,[]⟩]) u/\
   Only (fun k=>k=d) w (putW prog 62 (.map (some d)) (.string (S c.name)) (.pointer (some ⟨w.heap.size,0,none⟩)) (w.alloc (.cells (entC B es.length ⟨c,none,[]⟩ y x v (.slice none 0 0)) 80))):=by
 have J:Below w.heap.size w (w.alloc (.cells (entC B es.length ⟨c,none,[]⟩ y x v (.slice none 0 0)) 80)):=(Yab _ w).alloc (Yad _) _;have R:=Box.new w (entC B es.length ⟨c,none,[]⟩ y x v (.slice none 0 0)) 80;have L:=z.below J;have m:Only (fun _=>False) w (w.alloc (.cells (entC B es.length ⟨c,none,[]⟩ y x v (.slice none 0 0)) 80)):=Yae J;have Z:=StrR.st.src ai m (fun _ _=>id);have aa:=FldR.st.src X m (fun _ _=>id);have ab:=MthR.st.src ac m (fun _ _=>id);have aE:=z.tab.box.lt;have aF:=z.tab.map.lt;have M:∀i,i<es.length->B i<w.heap.size:=fun i f=>z.tab.lt f;generalize V:w.alloc (.cells (entC B es.length ⟨c,none,[]⟩ y x v (.slice none 0 0)) 80)=W at J R L m Z aa ab⊢;have aD:W.heap.size=w.heap.size+1:=by rw[←V];simp
 clear V;obtain⟨ad,T,t,aw⟩:=L.tab.map.put Zbb underlying62 (by unfold maxLen;omega) (val:=.pointer (some ⟨w.heap.size,0,none⟩)) (ZcT c.name ap);refine⟨ad,?_,(m.mono (fun _ _ aH=>aH.elim)).trans t⟩;generalize putW prog 62 (.map (some d)) (.string (S c.name)) (.pointer (some ⟨w.heap.size,0,none⟩)) W=W2 at ad T t aw⊢;have ae:(Zfp es (.string c.name)).isSome=false:=by
  show(Zad es c.name).isSome=false;rw[P];rfl
 rw[ae]at T;have g:∀i e,i<es.length->(es++[⟨c,none,[]⟩])[i]?=some e->es[i]?=some e:=fun i e f b=>by rw[YaR f]at b;exact b
 have h:∀i e,¬i<es.length->(es++[⟨c,none,[]⟩])[i]?=some e->i=es.length/\e=⟨c,none,[]⟩:=fun i e f b=>by
  rw[YaJ (by omega)]at b;have K:i-es.length=0:=by
   rcases YbR (i-es.length)with K|K
   ·exact K
   ·rw[YaS (by simp;omega)]at b;cases b
  rw[K]at b;simp at b;exact⟨by omega,b.symm⟩
 have q:(es++[(⟨c,none,[]⟩:Ent)]).length=es.length+1:=by simp
 have H:∀k,k<W2.heap.size->k≠w.heap.size->offT s A d B es.length k->offT s A d (addB B es.length w.heap.size) (es++[(⟨c,none,[]⟩:Ent)]).length k:=fun k _ p ⟨U,ar,ao,ax⟩=>⟨U,ar,ao,fun i f=>by
  rw[q]at f;rcases YaC i es.length with a|a
  ·rw[Zhi a];exact ax i a
  ·rw[show i=es.length by omega,ZbU];exact p⟩
 have old:∀r,r<es.length->addB B es.length w.heap.size r=B r:=fun r l=>Zhi l;have Y:∀(i:Nat) e,es[i]?=some e->EntIs (offT s A d (addB B es.length w.heap.size) (es++[(⟨c,none,[]⟩:Ent)]).length) (addB B es.length w.heap.size) W2 i e:=fun i e b=>by
  have f:=(Yag.1 b).1;have al:=(z.tab.ent i e b).mono (A':=fun k=>offT s A d B es.length k/\k<w.heap.size) (fun k p j=>⟨j,p⟩);have U:=(al.keep m (fun _ _=>id) id).keep t (fun k p (e:k=d)=>p.1.2.2.1 e) (z.tab.offM i f);refine(U.mono (fun k p j=>H k p (by have:=j.2;omega) j.1)).congr (old i f) (fun r l=>old r (z.up i e r b l)) (fun r l=>old r (z.lk i e r b l))
 refine⟨⟨L.tab.box.keep t (fun e=>z.tab.T_M e),?_,fun i e b=>?_,fun i r f l C=>?_,fun i f j=>?_,fun i f=>?_,fun i f=>?_,fun j=>j.2.1 rfl,fun j=>j.2.2.1 rfl,z.tab.T_M⟩,z.tT,z.tM,fun i f=>?_,fun i e r b l=>?_,fun i e r b l=>?_,fun i e aq b=>?_⟩
 ·obtain⟨aG,ah,af,aC,au⟩:=T;have az:(if false=true then es.length else es.length+1)=(es++[(⟨c,none,[]⟩:Ent)]).length:=by rw[q];rfl
  rw[az]at ah af;refine⟨aG,ah,af,fun F=>?_,fun F=>?_⟩
  ·rw[aC];refine Ya8 DataW.held ?_;by_cases e:F=.string c.name
   ·subst e;rw[Zb5];show _=ptrV _ (Zad _ _);rw[Zdw,P];show _=ptrV _ (if(c.name==c.name)=true then some es.length else none);rw[Yay (Ybi _),Zbv,ZbU]
   ·rw[Zbk _ _ e];cases F with
    |string n=>
     have E:(c.name==n)=false:=Yah.2 (fun I=>e (by rw[I]));show ptrV B (Zad es n)=ptrV _ (Zad _ n);rw[Zdw];cases N:Zad es n with
     |none=>
      show ptrV B none=ptrV _ (if(c.name==n)=true then some es.length else none);rw[E];rfl
     |some i=>exact(Zg4 (fun r l=>old r (by rw[←Yac l];exact(YaX.1 N).1))).symm
    |_=>rfl
  ·rw[au];by_cases e:F=.string c.name
   ·subst e;rw[Zb5];show _=(Zad _ _).isSome;rw[Zdw,P];show _=(if(c.name==c.name)=true then some es.length else none).isSome;rw[Yay (Ybi _)];rfl
   ·rw[Zbk _ _ e];cases F with
    |string n=>
     have E:(c.name==n)=false:=Yah.2 (fun I=>e (by rw[I]));show(Zad es n).isSome=(Zad _ n).isSome;rw[Zdw];cases N:Zad es n with
     |none=>
      show _=(if(c.name==n)=true then some es.length else none).isSome;rw[E];rfl
     |some i=>rfl
    |_=>rfl
 ·rcases YaC i es.length with f|f
  ·exact Y i e (g i e f b)
  ·obtain⟨rfl,rfl⟩:=h i e (by omega) b;have ag:¬w.heap.size=d:=by omega
   have Q:∀k,(offT s A d B es.length k/\k<w.heap.size)->¬k=d:=fun k p e=>p.1.2.2.1 e;have G:∀k,k<W2.heap.size->(offT s A d B es.length k/\k<w.heap.size)->offT s A d (addB B es.length w.heap.size) (es++[(⟨c,none,[]⟩:Ent)]).length k:=fun k p j=>H k p (by have:=j.2;omega) j.1;have O:∀k,k<w.heap.size->offT s A d B es.length k->(offT s A d B es.length k/\k<w.heap.size):=fun k p j=>⟨j,p⟩
   have ak:=StrR.st.srcMono (StrR.st.src (StrR.st.src (StrR.st.srcMono ai O) m (fun _ _=>id)) t Q) G;have I:=FldR.st.srcMono (FldR.st.src (FldR.st.src (FldR.st.srcMono X O) m (fun _ _=>id)) t Q) G;have aA:=MthR.st.srcMono (MthR.st.src (MthR.st.src (MthR.st.srcMono ac O) m (fun _ _=>id)) t Q) G;refine⟨y,x,v,.slice none 0 0,?_,ak,I,aA,.inl ⟨_,_,rfl,rfl⟩⟩;rw[ZbU];exact R.keep t ag
 ·rw[q]at f l;rcases YaC i es.length with a|a<;>rcases YaC r es.length with D|D
  ·rw[old i a,old r D]at C;exact z.tab.inj i r a D C
  ·rw[old i a,show r=es.length by omega,ZbU]at C;have:=M i a;omega
  ·rw[old r D,show i=es.length by omega,ZbU]at C;have:=M r D;omega
  ·omega
 ·exact j.2.2.2 i f rfl
 ·rw[q]at f;rcases YaC i es.length with a|a
  ·rw[old i a];exact z.tab.offT i a
  ·rw[show i=es.length by omega,ZbU];omega
 ·rw[q]at f;rcases YaC i es.length with a|a
  ·rw[old i a];exact z.tab.offM i a
  ·rw[show i=es.length by omega,ZbU];omega
 ·rw[q]at f;rcases YaC i es.length with a|a
  ·rw[old i a];exact z.tB i a
  ·rw[show i=es.length by omega,ZbU];exact ay
 ·rw[q];rcases YaC i es.length with a|a
  ·have:=z.up i e r (g i e a b) l;omega
  ·obtain⟨_,rfl⟩:=h i e (by omega) b;cases l
 ·rw[q];rcases YaC i es.length with a|a
  ·have:=z.lk i e r (g i e a b) l;omega
  ·obtain⟨_,rfl⟩:=h i e (by omega) b;cases l
 ·rcases YaC i es.length with a|a
  ·obtain⟨am,aj,av⟩:=L.raw i e aq (g i e a b);refine⟨am,aj,?_⟩;rw[old i a];exact t.cell av (z.tab.offM i a)
  ·obtain⟨rfl,rfl⟩:=h i e (by omega) b;refine⟨rfl,rfl,?_⟩;rw[ZbU];exact t.cell (R.cell 10 rfl) (by show ¬w.heap.size=d;omega)
theorem Zcd {A:Nat->Prop}{w w':World}{c:Cls}{v:Value}(b:ClsR A w c v)(a:Below w.heap.size w w'):ClsR A w' c v:=
 ClsR.st.keep b (Yae (S:=fun _=>False) a) (fun _ _=>id)
def ZsU (s d a:Nat)(B:Nat->Nat)(es:List Ent)(u:Nat)(c:Cls)(w:World)(e:Ending)(w':World):Prop:=
 ((Zad es c.name).isSome=true->e=.returned (.int .i64 60)/\Below w.heap.size w w')/\
 (Zad es c.name=none->e=.returned (.int .i64 0)/\Only (fun k=>k=a) w w'/\∃b,w.heap.size<=b/\Tb s w' d a (addB B es.length b) (es++[⟨c,none,[]⟩]) u)
structure En (s T mb:Nat) (B:Nat->Nat) (es:List Ent) (u:Nat) (c:Cls) (w:World) (lv fv mv:Value) (W:World):Prop where
 tb:Tb s W T mb B es u
 box:Box W w.heap.size #[.string (S c.name),.string (S c.sup),lv,.bool c.itf,.bool c.abs,.bool c.fin,fv,mv] 70
 bel:Below w.heap.size w W
 like:Src 1 StrR (offT s T mb B es.length) W lv c.like
 flds:Src 3 FldR (offT s T mb B es.length) W fv c.flds
 mths:Src 7 MthR (offT s T mb B es.length) W mv c.mths
theorem En.drew {s j i:Nat}{B:Nat->Nat}{es:List Ent}{u:Nat}{c:Cls}{w:World}{f g h:Value}{W:World}(d:En s j i B es u c w f g h W):En s j i B es u c w f g h W.drew:=by
 have a:Below W.heap.size W W.drew:=Zab (Yab _ _);have b:=Yae (S:=fun _=>False) a;exact⟨d.tb.below a,d.box.below a,d.bel.trans (a.mono d.bel.size),StrR.st.src d.like b (fun _ _=>id),FldR.st.src d.flds b (fun _ _=>id),MthR.st.src d.mths b (fun _ _=>id)⟩
theorem Ziu {A:Nat->Prop}{s K b:Nat}{B:Nat->Nat}{es:List Ent}{u:Nat}(c:Cls)(v:Value)(w:World)(aH:Tb s w K b B es u)(a3:s<=w.heap.size)(au:ClsR A w c v)(af:c.Small)(ac:es.length<=1048576) :
  Calls prog 23 #[.pointer (some ⟨K,0,none⟩),v] w (ZsU s K b B es u c w):=by
 obtain⟨_,_,_,rfl,⟨lo,aF,rfl⟩,⟨ay,fc,rfl⟩,⟨aA,aw,rfl⟩⟩:=ZbX au;have G:Below w.heap.size w (w.alloc (.cells #[.string (S c.name),.string (S c.sup),.slice lo c.like.length aF,.bool c.itf,.bool c.abs,.bool c.fin,.slice ay c.flds.length fc,.slice aA c.mths.length aw] 70)):=(Yab _ w).alloc (Yad _) _;have y:=Hd (Box.new w #[.string (S c.name),.string (S c.sup),.slice lo c.like.length aF,.bool c.itf,.bool c.abs,.bool c.fin,.slice ay c.flds.length fc,.slice aA c.mths.length aw] 70);have D:=Hd (aH.below G);have aa:=Hd (Zcd au G);have x:=Hd G;have Y:=Hd af;have aZ:=Hd ac;have aY:Hid (K<w.heap.size/\b<w.heap.size/\∀i,i<es.length->B i<w.heap.size):=Hd ⟨aH.tab.box.lt,aH.tab.map.lt,fun i ax=>aH.tab.lt ax⟩;have a7:=Hd aH;clear G au af ac aH;go_enter func23,ntmps23
 go_upto_region 1 with fail;obtain⟨q,ar⟩:∃q,q=w.alloc (.cells #[.string (S c.name),.string (S c.sup),.slice lo c.like.length aF,.bool c.itf,.bool c.abs,.bool c.fin,.slice ay c.flds.length fc,.slice aA c.mths.length aw] 70):=⟨_,rfl⟩
 rw[←ar]at y D aa x⊢;have ag:Hid (w.heap.size<q.heap.size):=Hd (y.o.lt);clear ar;have M:Below q.heap.size q q:=Yab _ _;have z:c.name.length<=9223372036854775807:=by have:=Y.o.name;omega
 have E:Hid (∀W,Below q.heap.size q W->W.cell? ⟨K,0,none⟩=some (.map (some b))/\W.cell? ⟨w.heap.size,0,none⟩=some (.string (S c.name))/\
   (Instr.lookup 62 (.map (some b)) (.string (S c.name)) false).run prog W=.ok (ptrV B (Zad es c.name)) W):=Hd (fun W aD=>
  ⟨(D.o.below aD).tab.box.cell 0 rfl,(y.o.below aD).cell 0 rfl,(D.o.below aD).tab.look c.name z⟩)
 clear z;cases R:Zad es c.name with
 |some bm=>
  rw[R,Zbv]at E;obtain⟨az,av,aC⟩:=E.o q M;first
  |(go_region_held (fun W=>W.cell? ⟨K,0,none⟩=some (.map (some b))/\W.cell? ⟨w.heap.size,0,none⟩=some (.string (S c.name))/\(Instr.lookup 62 (.map (some b)) (.string (S c.name)) false).run prog W=.ok (.pointer (some ⟨B bm,0,none⟩)) W)
    ((refine E.o _ ?_;(with_reducible repeat (first|exact Yab _ _|assumption|refine Zab ?_)))) (fail))
  |fail
  all_goals
   clear az av aC;go_wp2;go_ret;exact⟨fun _=>⟨rfl,x.o.trans ((Zab M).mono x.o.size)⟩,fun aV=>(by rw[R]at aV;cases aV)⟩
 |none=>
  rw[R,Zdx]at E;obtain⟨az,av,aC⟩:=E.o q M;first
  |(go_region_held (fun W=>W.cell? ⟨K,0,none⟩=some (.map (some b))/\W.cell? ⟨w.heap.size,0,none⟩=some (.string (S c.name))/\(Instr.lookup 62 (.map (some b)) (.string (S c.name)) false).run prog W=.ok (.pointer none) W)
    ((refine E.o _ ?_;(with_reducible repeat (first|exact Yab _ _|assumption|refine Zab ?_)))) (fail))
  |fail
  all_goals
   clear az av aC;have C:=Zab M;have V:=Hd (D.o.below C);have Q:=Hd (Zcd aa.o C);have H:=Hd (x.o.trans (C.mono x.o.size));have T:Hid (w.heap.size<q.drew.heap.size):=Hd ag.o;have r:=y.o.below C;clear M C E y D aa x ag;generalize q.drew=aG at V Q H T r⊢;have L:=r.cell 0 rfl;have U:=r.cell 1 rfl;have ab:=r.cell 2 rfl;have X:=r.cell 3 rfl;have O:=r.cell 4 rfl;have Z:=r.cell 5 rfl;have N:=r.cell 6 rfl;have P:=r.cell 7 rfl;have ae:=Hd r;clear r;go_wp2_with fail;refine(Zs2 c _ aG Q.o Y.o).mono ?_;rintro bp w2⟨bo,rfl,J,I⟩;clear L U ab X O Z N P;have aO:=J;obtain⟨_,_,_,rfl,⟨m,h,rfl⟩,⟨j,g,rfl⟩,⟨f,l,rfl⟩⟩:=ZbX J;have d:=ae.o.below I;have L:=d.cell 0 rfl;have U:=d.cell 1 rfl;have ab:=d.cell 2 rfl;have X:=d.cell 3 rfl;have O:=d.cell 4 rfl;have Z:=d.cell 5 rfl;have N:=d.cell 6 rfl;have P:=d.cell 7 rfl;have a4:=d.free 0;have bd:=d.free 1;have a5:=d.free 2;have a8:=d.free 3;have a1:=d.free 4;have bh:=d.free 5;have bb:=d.free 6;have a2:=d.free 7;have ah:=Hd d;have aq:=Hd J;have aM:=Hd (V.o.below I);have ak:=Hd (H.o.trans (I.mono H.o.size));clear d J aO I;go_upto_region 4 with fail;have ad:En s K b B es u c w (.slice m c.like.length h) (.slice j c.flds.length g) (.slice f c.mths.length l) ((((((((w2.setCell ⟨w.heap.size,0,none⟩ (.string (S c.name))).setCell ⟨w.heap.size,1,none⟩ (.string (S c.sup))).setCell ⟨w.heap.size,2,none⟩ (.slice m c.like.length h)).setCell ⟨w.heap.size,3,none⟩ (.bool c.itf)).setCell ⟨w.heap.size,4,none⟩ (.bool c.abs)).setCell ⟨w.heap.size,5,none⟩ (.bool c.fin)).setCell ⟨w.heap.size,6,none⟩ (.slice j c.flds.length g)).setCell ⟨w.heap.size,7,none⟩ (.slice f c.mths.length l)):=by
    have ai:=((((((((ak.o.setCell (p:=⟨w.heap.size,0,none⟩) (Yad _) (.string (S c.name))).setCell (p:=⟨w.heap.size,1,none⟩) (Yad _) (.string (S c.sup))).setCell (p:=⟨w.heap.size,2,none⟩) (Yad _) (.slice m c.like.length h)).setCell (p:=⟨w.heap.size,3,none⟩) (Yad _) (.bool c.itf)).setCell (p:=⟨w.heap.size,4,none⟩) (Yad _) (.bool c.abs)).setCell (p:=⟨w.heap.size,5,none⟩) (Yad _) (.bool c.fin)).setCell (p:=⟨w.heap.size,6,none⟩) (Yad _) (.slice j c.flds.length g)).setCell (p:=⟨w.heap.size,7,none⟩) (Yad _) (.slice f c.mths.length l));have aP:=(((((((((Yak (fun k=>k=w.heap.size) w2).setCell (p:=⟨w.heap.size,0,none⟩) rfl (.string (S c.name))).setCell (p:=⟨w.heap.size,1,none⟩) rfl (.string (S c.sup))).setCell (p:=⟨w.heap.size,2,none⟩) rfl (.slice m c.like.length h)).setCell (p:=⟨w.heap.size,3,none⟩) rfl (.bool c.itf)).setCell (p:=⟨w.heap.size,4,none⟩) rfl (.bool c.abs)).setCell (p:=⟨w.heap.size,5,none⟩) rfl (.bool c.fin)).setCell (p:=⟨w.heap.size,6,none⟩) rfl (.slice j c.flds.length g)).setCell (p:=⟨w.heap.size,7,none⟩) rfl (.slice f c.mths.length l));have aN:=((((((((ah.o.set 0 (.string (S c.name))).set 1 (.string (S c.sup))).set 2 (.slice m c.like.length h)).set 3 (.bool c.itf)).set 4 (.bool c.abs)).set 5 (.bool c.fin)).set 6 (.slice j c.flds.length g)).set 7 (.slice f c.mths.length l));have aX:=ClsR.st.mono (A':=offT s K b B es.length) (ClsR.st.keep aq.o aP (fun k aB e=>by have a6:aG.heap.size<=k:=aB;have bf:=T.o;have bn:k=w.heap.size:=e;omega)) (fun k _ aB=>by
     have a6:aG.heap.size<=k:=aB;have bf:=T.o;obtain⟨l1,l2,a0⟩:=aY.o;exact⟨by omega,by omega,by omega,fun i ax=>by have:=a0 i ax;omega⟩)
    obtain⟨bl,bk,bj,ao,bg,ba,bc⟩:=aX;simp only[Value.agg.injEq,Ycn,YaT,and_true,true_and]at ao;obtain⟨rfl,rfl,rfl⟩:=ao;exact⟨a7.o.below ai,aN,ai,bg,ba,bc⟩
   refine Zau (En s K b B es u c w (.slice m c.like.length h) (.slice j c.flds.length g) (.slice f c.mths.length l)) ad ?_;intro n a;clear ad L U ab X O Z N P a4 bd a5 a8 a1 bh bb a2 ah aq aM ak ae V Q H;have aE:=Hd a;have F:=a.drew;have z:c.name.length<=9223372036854775807:=by have:=Y.o.name;omega
   obtain⟨aS,aL,aT⟩:=F.tb.push c _ _ _ R z (by have:=aZ.o;omega) (Yaj a3 F.bel.size) F.like F.flds F.mths;have am:=Hd aL;have aj:=Hd aT;have bi:=a.tb.tab.box.cell 0 rfl;have L:=a.box.cell 0 rfl;have U:=a.box.cell 1 rfl;have ab:=a.box.cell 2 rfl;have X:=a.box.cell 3 rfl;have O:=a.box.cell 4 rfl;have Z:=a.box.cell 5 rfl;have N:=a.box.cell 6 rfl;have P:=a.box.cell 7 rfl;have aK:=a.tb.tab.box.lt;have aU:=a.box.lt;have gl:=fun ty=>F.tb.tab.map.len (t:=62) underlying62 ty;clear aL aT a F z;have a9:(Instr.mapUpdate 62 (.map (some b)) (.string (S c.name)) (.pointer (some ⟨n.heap.size,0,none⟩))).run prog ((n.alloc (.cells #[.int .i64 es.length,.string (S c.name),.string (S c.sup),.slice m c.like.length h,.bool c.itf,.bool c.abs,.bool c.fin,.slice j c.flds.length g,.slice f c.mths.length l,.pointer none,.slice none 0 0] 80)).drew)=.ok () (putW prog 62 (.map (some b)) (.string (S c.name)) (.pointer (some ⟨n.heap.size,0,none⟩)) ((n.alloc (.cells #[.int .i64 es.length,.string (S c.name),.string (S c.sup),.slice m c.like.length h,.bool c.itf,.bool c.abs,.bool c.fin,.slice j c.flds.length g,.slice f c.mths.length l,.pointer none,.slice none 0 0] 80)).drew)):=aS;have aW:Hid (Tb s (putW prog 62 (.map (some b)) (.string (S c.name)) (.pointer (some ⟨n.heap.size,0,none⟩)) ((n.alloc (.cells #[.int .i64 es.length,.string (S c.name),.string (S c.sup),.slice m c.like.length h,.bool c.itf,.bool c.abs,.bool c.fin,.slice j c.flds.length g,.slice f c.mths.length l,.pointer none,.slice none 0 0] 80)).drew)) K b (addB B es.length n.heap.size) (es++[⟨c,none,[]⟩]) u/\Only (fun k=>k=b) n.drew (putW prog 62 (.map (some b)) (.string (S c.name)) (.pointer (some ⟨n.heap.size,0,none⟩)) ((n.alloc (.cells #[.int .i64 es.length,.string (S c.name),.string (S c.sup),.slice m c.like.length h,.bool c.itf,.bool c.abs,.bool c.fin,.slice j c.flds.length g,.slice f c.mths.length l,.pointer none,.slice none 0 0] 80)).drew))):=Hd ⟨am.o,aj.o⟩;clear aS am aj;go_region
   all_goals
    clear L U ab X O Z N P bi gl a9 aK aU;obtain⟨aI,aJ⟩:=aW.o;have ap:=Hd aI;have al:=Hd aJ;have aQ:=Hd aE.o.drew.bel;have aR:Hid (w.heap.size<=n.heap.size):=Hd aE.o.bel.size;clear aW aI aJ aE;generalize putW prog 62 (.map (some b)) (.string (S c.name)) (.pointer (some ⟨n.heap.size,0,none⟩)) ((n.alloc (.cells #[.int .i64 es.length,.string (S c.name),.string (S c.sup),.slice m c.like.length h,.bool c.itf,.bool c.abs,.bool c.fin,.slice j c.flds.length g,.slice f c.mths.length l,.pointer none,.slice none 0 0] 80)).drew)=bq at ap al⊢;go_wp2;go_ret;refine⟨fun aV=>(by rw[R]at aV;cases aV),fun _=>⟨rfl,?_,_,aR.o,ap.o⟩⟩;exact(Yae aQ.o).trans al.o
