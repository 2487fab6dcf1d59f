/- laws -/
import Derived.Test.YtegljjbclladdaaGreatDoorK18
set_option maxRecDepth 100000
set_option maxHeartbeats 16000000
namespace Go.Proofs.YtegljjbclladdaaGreatDoor
open Go.RowKit Tryz
def Zdf {α:Type}(n:Nat)(R:Zao α)(A:Nat->Prop)(l:List α)(w:World)(e:Ending)(w':World):Prop:=∃a,e=.returned a/\Cloned n R A w.heap.size w' a l/\Below w.heap.size w w'
def Zgz {α:Type}(R:Zao α)(d:Nat)(a:Array Value)(l:List α)(w:World):Prop:=
 ∀(x:α) (v:Value) (W:World),x∈l->Below w.heap.size w W->R (fun i=>i<w.heap.size) W x v->Calls prog d (#[v]++a) W (fun e b=>∃c,e=.returned c/\R (fun i=>W.heap.size<=i) b x c/\Below W.heap.size W b)
def Zcb {α:Type}(n:Nat)(R:Zao α)(l:List α)(w:World)(e:Ending)(w':World):Prop:=∃a,e=.returned a/\Src n R (fun i=>w.heap.size<=i) w' a l/\Below w.heap.size w w'
theorem Zou:(prog.info? 9).map (fun i=>(i.zero,i.size,i.bytes))=some (some (.string ⟨#[]⟩),1,16):=by kernel_rfl
theorem Zq7 {A:Nat->Prop}{w:World}:∀x v,StrR A w x v->∀u∈v.cells.toList,u.oneCell'=true:=fun x v b u a=>by
 obtain rfl:=b;simp[Value.cells]at a;rcases a with rfl<;>rfl
theorem Zkv {A:Nat->Prop}(l:List (List UInt8))(sv:Value)(w:World)(j:Src 1 StrR A w sv l)(r:l.length<=1048576):Calls prog 73 #[sv] w (Zdf 1 StrR A l w):=by
 obtain⟨t,g,h,i,f⟩:=info_parts Zou;have d:=Hd (fun ty=>ZdS (P:=prog) (w:=w) (n:=1) (by decide) StrR.st (fun x v q=>Zq7 x v q) 22 ty 9 t _ 16 underlying22 g h i f rfl j (by omega) (by omega));obtain⟨C,z,rfl⟩:=j.shape;cases C with
 |none=>
  have p:l=[]:=by
   rcases j with⟨_,_,_,q⟩|⟨b,o,c,q,_⟩
   ·exact q
   ·simp at q
  subst p;have B:=fun n c=>Lib.run_eql_slice_nil (P:=prog) w 22 9 none n c 0 0 underlying22;clear d j g h i f r;go_enter func73,ntmps73;go_wp2;go_ret;exact⟨_,rfl,.inl ⟨rfl,_,_,rfl⟩,Yab _ _⟩
 |some a=>
  generalize m:l.length=u at d⊢;have B:=Lib.run_eql_slice_nil (P:=prog) w 22 9 (some a) u z 0 0 underlying22;clear m;clear j g h i f r;go_enter func73,ntmps73
  go_wp2_with (at_builtin;(obtain⟨y,w',k,D,s⟩:=d.o _;refine Zak rfl _ _ 22 rfl _ _ y w' rfl rfl k ?_))
  go_ret;exact⟨_,rfl,D,s⟩
theorem Zio {A:Nat->Prop}(aa:Nat)(j:Array Value)(y:∀args w,(callFunc aa args).run prog w=.ok (.enter aa args) w)(l:List (List UInt8))(sv:Value)(w:World)(M:Src 1 StrR A w sv l)(ar:l.length<=1048576)(au:Zgz StrR aa j l w) :
  Calls prog 134 #[sv,.func (.func aa) #[] j] w (Zcb 1 StrR l w):=by
 have W:Src 1 StrR (fun i=>i<w.heap.size) w sv l:=StrR.st.srcMono M (fun k ai _=>ai);have B:=Hd (Zkv l sv w W ar);unfold Zdf at B;obtain⟨aJ,aH,rfl⟩:=W.shape;have av:=Hd y;have aw:=Hd au;clear y au W M;obtain⟨h,p⟩:∃h,h=l.length:=⟨_,rfl⟩
 have T:=Hd p;rw[←p]at B ar⊢;clear p;go_enter func134,ntmps134
 go_wp2_with fail;refine B.o.mono ?_;rintro e ae⟨aG,rfl,az,X⟩;have Y:=Hd X;clear X B;rcases az with⟨H,aK,c,rfl⟩|⟨g,c,rfl,I,F,L,D,P,G⟩
 ·have aj:=Hd H;clear H;go_wp2;go_loopw [11] (fun t wr=>t=.int .i64 0/\wr=ae) (fun _ _=>0)
  case atStart=>exact⟨rfl,rfl⟩
  case round=>
   obtain⟨rfl,rfl⟩:=hrel;go_wp2;go_ret;exact⟨_,rfl,by rw[aj.o];exact .inl ⟨_,_,rfl,rfl⟩,Y.o⟩
 have a:CInv 1 StrR w.heap.size g 0 ae l:=Cloned.inv I F P G;have am:=Hd a;have aq:=Hd L;have ap:=Hd D;clear a I F L D P G;rw[←T.o];go_wp2;go_loopw [11] (fun t wr=>∃k:Nat,k<=h/\t=.int .i64 k/\CInv 1 StrR w.heap.size g k wr l/\Below w.heap.size w wr) (fun t _=>h-(intOf t).toNat)
 case atStart=>exact⟨0,Yao _,rfl,am.o,Y.o⟩
 case round=>
  obtain⟨k,ai,rfl,a,R⟩:=hrel;have f:=Hd a;have b:=Hd R;clear a R am;by_cases aD:k<h
  ·have J:k<l.length:=by have:=T.o;omega
   obtain⟨x,z⟩:∃x,l[k]?=some x:=⟨_,Yaa J⟩
   have ac:=Hd z;obtain⟨u,al,Z,Q⟩:=f.o.elem z;have O:=al;obtain rfl:=al;have ax:wr.cell? ⟨g,k,none⟩=some (.string (S x)):=by have r:=Q 0 (.string (S x)) rfl;rw[YaH]at r;exact r
   have n:Below wr.heap.size wr wr:=Yab _ _;have s:=Hd n;have C:Hid (Calls prog aa (#[.string (S x)]++j) wr (fun e ao=>∃v,e=.returned v/\StrR (fun i=>wr.heap.size<=i) ao x v/\Below wr.heap.size wr ao)):=Hd (aw.o x _ wr (Yaf z) (b.o.trans (n.mono b.o.size)) (StrR.st.keep O (Yae (S:=fun _=>False) n) (fun _ _=>id)));clear z Q Z J n O;have aB:(0:Int)<=k:=by omega
   have aC:(k:Int)<(h:Int):=by omega
   have y:=av.o;go_wp2_with fail;refine C.o.mono ?_;rintro e w2⟨v,rfl,af,K⟩;have m:=Hd (s.o.trans (K.mono s.o.size));have ah:Hid (StrR (fun i=>wr.heap.size<=i) w2 x v):=Hd (StrR.st.mono af (fun i _ U=>Yaj s.o.size U));obtain rfl:=af;have d:=f.o.only StrR.st m.o;have E:=f.o.store StrR.st m.o ac.o ah.o rfl;have N:Below w.heap.size w (setRow w2 g (k*1) [.string (S x)]):=(b.o.trans (m.o.mono b.o.size)).trans ((ZbN (S:=fun i=>i=g) _ _ _ _ (Yak _ _) rfl).below (Yaj b.o.size m.o.size) (fun i U=>by subst U;exact f.o.ge));have ag:=Hd E;have ak:=Hd N;obtain⟨aI,ab,V,q⟩:=d.elem ac.o;obtain rfl:=ab;have aF:w2.cell? ⟨g,k,none⟩=some (.string (S x)):=by have r:=q 0 (.string (S x)) rfl;rw[YaH]at r;exact r
   have aE:w2.frozen? ⟨g,k,none⟩=false:=d.free _;clear y d E N K q V C ax;go_wp2;go_roundw
   case rel=>
    have aA:CInv 1 StrR w.heap.size g (k+1) (w2.setCell ⟨g,k,none⟩ (.string (S x))) l:=by have r:=ag.o;rw[YaH]at r;exact r
    have ay:Below w.heap.size w (w2.setCell ⟨g,k,none⟩ (.string (S x))):=by have r:=ak.o;rw[YaH]at r;exact r
    exact⟨k+1,by omega,by go_num,aA,ay⟩
   case measure=>simp[intOf];omega
  ·obtain rfl:h=k:=by omega
   go_wp2;go_ret;refine⟨_,rfl,?_,b.o⟩;have ad:=f.o;rw[T.o]at ad⊢;exact ad.done StrR.st aq.o ap.o
theorem Zor:(prog.info? 82).map (fun i=>(i.zero,i.size,i.bytes))=some (some (.agg #[.string ⟨#[]⟩,.string ⟨#[]⟩,.bool false]),3,40):=by kernel_rfl
theorem Zq4 {A:Nat->Prop}{w:World}:∀x v,FldR A w x v->∀u∈v.cells.toList,u.oneCell'=true:=fun x v b u a=>by
 obtain rfl:=b;simp[Value.cells]at a;rcases a with rfl|rfl|rfl<;>rfl
theorem Zks {A:Nat->Prop}(l:List (Fld))(sv:Value)(w:World)(j:Src 3 FldR A w sv l)(r:l.length<=1048576):Calls prog 196 #[sv] w (Zdf 3 FldR A l w):=by
 obtain⟨t,g,h,i,f⟩:=info_parts Zor;have d:=Hd (fun ty=>ZdS (P:=prog) (w:=w) (n:=3) (by decide) FldR.st (fun x v q=>Zq4 x v q) 67 ty 82 t _ 40 underlying67 g h i f rfl j (by omega) (by omega));obtain⟨C,z,rfl⟩:=j.shape;cases C with
 |none=>
  have p:l=[]:=by
   rcases j with⟨_,_,_,q⟩|⟨b,o,c,q,_⟩
   ·exact q
   ·simp at q
  subst p;have B:=fun n c=>Lib.run_eql_slice_nil (P:=prog) w 67 82 none n c 0 0 underlying67;clear d j g h i f r;go_enter func196,ntmps196;go_wp2;go_ret;exact⟨_,rfl,.inl ⟨rfl,_,_,rfl⟩,Yab _ _⟩
 |some a=>
  generalize m:l.length=u at d⊢;have B:=Lib.run_eql_slice_nil (P:=prog) w 67 82 (some a) u z 0 0 underlying67;clear m;clear j g h i f r;go_enter func196,ntmps196
  go_wp2_with (at_builtin;(obtain⟨y,w',k,D,s⟩:=d.o _;refine Zak rfl _ _ 67 rfl _ _ y w' rfl rfl k ?_))
  go_ret;exact⟨_,rfl,D,s⟩
theorem ZnL {A:Nat->Prop}(af:Nat)(m:Array Value)(y:∀args w,(callFunc af args).run prog w=.ok (.enter af args) w)(l:List (Fld))(sv:Value)(w:World)(E:Src 3 FldR A w sv l)(ae:l.length<=1048576)(ar:Zgz FldR af m l w) :
  Calls prog 135 #[sv,.func (.func af) #[] m] w (Zcb 3 FldR l w):=by
 have T:Src 3 FldR (fun i=>i<w.heap.size) w sv l:=FldR.st.srcMono E (fun k ak _=>ak);have z:=Hd (Zks l sv w T ae);unfold Zdf at z;obtain⟨aP,aG,rfl⟩:=T.shape;have az:=Hd y;have aw:=Hd ar;clear y ar T E;obtain⟨j,s⟩:∃j,j=l.length:=⟨_,rfl⟩
 have R:=Hd s;rw[←s]at z ae⊢;clear s;go_enter func135,ntmps135
 go_wp2_with fail;refine z.o.mono ?_;rintro e Y⟨aI,rfl,ay,W⟩;have X:=Hd W;clear W z;rcases ay with⟨P,aN,c,rfl⟩|⟨g,c,rfl,Q,O,L,I,G,D⟩
 ·have ao:=Hd P;clear P;go_wp2;go_loopw [11] (fun t wr=>t=.int .i64 0/\wr=Y) (fun _ _=>0)
  case atStart=>exact⟨rfl,rfl⟩
  case round=>
   obtain⟨rfl,rfl⟩:=hrel;go_wp2;go_ret;exact⟨_,rfl,by rw[ao.o];exact .inl ⟨_,_,rfl,rfl⟩,X.o⟩
 have b:CInv 3 FldR w.heap.size g 0 Y l:=Cloned.inv Q O G D;have ad:=Hd b;have al:=Hd L;have aa:=Hd I;clear b Q O L I G D;rw[←R.o];go_wp2;go_loopw [11] (fun t wr=>∃k:Nat,k<=j/\t=.int .i64 k/\CInv 3 FldR w.heap.size g k wr l/\Below w.heap.size w wr) (fun t _=>j-(intOf t).toNat)
 case atStart=>exact⟨0,Yao _,rfl,ad.o,X.o⟩
 case round=>
  obtain⟨k,ak,rfl,b,H⟩:=hrel;have h:=Hd b;have d:=Hd H;clear b H ad;by_cases aC:k<j
  ·have J:k<l.length:=by have:=R.o;omega
   obtain⟨x,B⟩:∃x,l[k]?=some x:=⟨_,Yaa J⟩
   have ah:=Hd B;obtain⟨u,ap,ab,q⟩:=h.o.elem B;have M:=ap;obtain rfl:=ap;have aA:wr.cell? ⟨g,k*3,none⟩=some (.string (S x.name)):=q 0 (.string (S x.name)) rfl;have av:wr.cell? ⟨g,k*3+1,none⟩=some (.string (S x.kind)):=q 1 (.string (S x.kind)) rfl;have au:wr.cell? ⟨g,k*3+2,none⟩=some (.bool x.tr):=q 2 (.bool x.tr) rfl;have n:Below wr.heap.size wr (wr.alloc (.cells #[.string (S x.name),.string (S x.kind),.bool x.tr] 82)):=Zaa (Yab _ _) _;have r:=Hd n;have N:Hid (Calls prog af (#[.agg #[.string (S x.name),.string (S x.kind),.bool x.tr]]++m) (wr.alloc (.cells #[.string (S x.name),.string (S x.kind),.bool x.tr] 82)) (fun e aq=>∃v,e=.returned v/\FldR (fun i=>(wr.alloc (.cells #[.string (S x.name),.string (S x.kind),.bool x.tr] 82)).heap.size<=i) aq x v/\Below (wr.alloc (.cells #[.string (S x.name),.string (S x.kind),.bool x.tr] 82)).heap.size (wr.alloc (.cells #[.string (S x.name),.string (S x.kind),.bool x.tr] 82)) aq)):=Hd (aw.o x _ (wr.alloc (.cells #[.string (S x.name),.string (S x.kind),.bool x.tr] 82)) (Yaf B) (d.o.trans (n.mono d.o.size)) (FldR.st.keep M (Yae (S:=fun _=>False) n) (fun _ _=>id)));clear B q ab J n M;have aE:(0:Int)<=k:=by omega
   have aD:(k:Int)<(j:Int):=by omega
   have y:=az.o;go_wp2_with fail;refine N.o.mono ?_;rintro e w2⟨v,rfl,Z,K⟩;have p:=Hd (r.o.trans (K.mono r.o.size));have am:Hid (FldR (fun i=>wr.heap.size<=i) w2 x v):=Hd (FldR.st.mono Z (fun i _ U=>Yaj r.o.size U));obtain rfl:=Z;have a:=h.o.only FldR.st p.o;have C:=h.o.store FldR.st p.o ah.o am.o rfl;have F:Below w.heap.size w (setRow w2 g (k*3) [.string (S x.name),.string (S x.kind),.bool x.tr]):=(d.o.trans (p.o.mono d.o.size)).trans ((ZbN (S:=fun i=>i=g) _ _ _ _ (Yak _ _) rfl).below (Yaj d.o.size p.o.size) (fun i U=>by subst U;exact h.o.ge));have aj:=Hd C;have ac:=Hd F;obtain⟨aM,ag,V,f⟩:=a.elem ah.o;obtain rfl:=ag;have aF:w2.cell? ⟨g,k*3,none⟩=some (.string (S x.name)):=f 0 (.string (S x.name)) rfl;have aH:w2.frozen? ⟨g,k*3,none⟩=false:=a.free _;have aK:w2.cell? ⟨g,k*3+1,none⟩=some (.string (S x.kind)):=f 1 (.string (S x.kind)) rfl;have aO:w2.frozen? ⟨g,k*3+1,none⟩=false:=a.free _;have aL:w2.cell? ⟨g,k*3+2,none⟩=some (.bool x.tr):=f 2 (.bool x.tr) rfl;have aJ:w2.frozen? ⟨g,k*3+2,none⟩=false:=a.free _;clear y a C F K f V N aA av au;go_wp2;go_roundw
   case rel=>
    have aB:CInv 3 FldR w.heap.size g (k+1) (((w2.setCell ⟨g,k*3,none⟩ (.string (S x.name))).setCell ⟨g,k*3+1,none⟩ (.string (S x.kind))).setCell ⟨g,k*3+2,none⟩ (.bool x.tr)) l:=aj.o;have ax:Below w.heap.size w (((w2.setCell ⟨g,k*3,none⟩ (.string (S x.name))).setCell ⟨g,k*3+1,none⟩ (.string (S x.kind))).setCell ⟨g,k*3+2,none⟩ (.bool x.tr)):=ac.o;exact⟨k+1,by omega,by go_num,aB,ax⟩
   case measure=>simp[intOf];omega
  ·obtain rfl:j=k:=by omega
   go_wp2;go_ret;refine⟨_,rfl,?_,d.o⟩;have ai:=h.o;rw[R.o]at ai⊢;exact ai.done FldR.st al.o aa.o
theorem Zos:(prog.info? 28).map (fun i=>(i.zero,i.size,i.bytes))=some (some (.agg #[.string ⟨#[]⟩,.int .i64 0,.string ⟨#[]⟩]),3,40):=by kernel_rfl
theorem Zq5 {A:Nat->Prop}{w:World}:∀x v,InsR A w x v->∀u∈v.cells.toList,u.oneCell'=true:=fun x v b u a=>by
 obtain rfl:=b;simp[Value.cells]at a;rcases a with rfl|rfl|rfl<;>rfl
theorem Zkt {A:Nat->Prop}(l:List (Ins))(sv:Value)(w:World)(j:Src 3 InsR A w sv l)(r:l.length<=1048576):Calls prog 227 #[sv] w (Zdf 3 InsR A l w):=by
 obtain⟨t,g,h,i,f⟩:=info_parts Zos;have d:=Hd (fun ty=>ZdS (P:=prog) (w:=w) (n:=3) (by decide) InsR.st (fun x v q=>Zq5 x v q) 23 ty 28 t _ 40 underlying23 g h i f rfl j (by omega) (by omega));obtain⟨C,z,rfl⟩:=j.shape;cases C with
 |none=>
  have p:l=[]:=by
   rcases j with⟨_,_,_,q⟩|⟨b,o,c,q,_⟩
   ·exact q
   ·simp at q
  subst p;have B:=fun n c=>Lib.run_eql_slice_nil (P:=prog) w 23 28 none n c 0 0 underlying23;clear d j g h i f r;go_enter func227,ntmps227;go_wp2;go_ret;exact⟨_,rfl,.inl ⟨rfl,_,_,rfl⟩,Yab _ _⟩
 |some a=>
  generalize m:l.length=u at d⊢;have B:=Lib.run_eql_slice_nil (P:=prog) w 23 28 (some a) u z 0 0 underlying23;clear m;clear j g h i f r;go_enter func227,ntmps227
  go_wp2_with (at_builtin;(obtain⟨y,w',k,D,s⟩:=d.o _;refine Zak rfl _ _ 23 rfl _ _ y w' rfl rfl k ?_))
  go_ret;exact⟨_,rfl,D,s⟩
theorem ZnM {A:Nat->Prop}(ah:Nat)(m:Array Value)(B:∀args w,(callFunc ah args).run prog w=.ok (.enter ah args) w)(l:List (Ins))(sv:Value)(w:World)(G:Src 3 InsR A w sv l)(ag:l.length<=1048576)(av:Zgz InsR ah m l w) :
  Calls prog 198 #[sv,.func (.func ah) #[] m] w (Zcb 3 InsR l w):=by
 have V:Src 3 InsR (fun i=>i<w.heap.size) w sv l:=InsR.st.srcMono G (fun k am _=>am);have C:=Hd (Zkt l sv w V ag);unfold Zdf at C;obtain⟨aR,aI,rfl⟩:=V.shape;have aB:=Hd B;have ay:=Hd av;clear B av V G;obtain⟨j,v⟩:∃j,j=l.length:=⟨_,rfl⟩
 have U:=Hd v;rw[←v]at C ag⊢;clear v;go_enter func198,ntmps198
 go_wp2_with fail;refine C.o.mono ?_;rintro e aa⟨aK,rfl,aA,Y⟩;have Z:=Hd Y;clear Y C;rcases aA with⟨R,aP,c,rfl⟩|⟨g,c,rfl,T,Q,N,K,I,F⟩
 ·have aq:=Hd R;clear R;go_wp2;go_loopw [11] (fun y wr=>y=.int .i64 0/\wr=aa) (fun _ _=>0)
  case atStart=>exact⟨rfl,rfl⟩
  case round=>
   obtain⟨rfl,rfl⟩:=hrel;go_wp2;go_ret;exact⟨_,rfl,by rw[aq.o];exact .inl ⟨_,_,rfl,rfl⟩,Z.o⟩
 have b:CInv 3 InsR w.heap.size g 0 aa l:=Cloned.inv T Q I F;have af:=Hd b;have ao:=Hd N;have ac:=Hd K;clear b T Q N K I F;rw[←U.o];go_wp2;go_loopw [11] (fun y wr=>∃k:Nat,k<=j/\y=.int .i64 k/\CInv 3 InsR w.heap.size g k wr l/\Below w.heap.size w wr) (fun y _=>j-(intOf y).toNat)
 case atStart=>exact⟨0,Yao _,rfl,af.o,Z.o⟩
 case round=>
  obtain⟨k,am,rfl,b,J⟩:=hrel;have h:=Hd b;have d:=Hd J;clear b J af;by_cases aE:k<j
  ·have L:k<l.length:=by have:=U.o;omega
   obtain⟨x,D⟩:∃x,l[k]?=some x:=⟨_,Yaa L⟩
   have aj:=Hd D;obtain⟨u,ar,ad,r⟩:=h.o.elem D;have O:=ar;obtain rfl:=ar;have aC:wr.cell? ⟨g,k*3,none⟩=some (.string (S x.op)):=r 0 (.string (S x.op)) rfl;have ax:wr.cell? ⟨g,k*3+1,none⟩=some (.int .i64 x.n):=r 1 (.int .i64 x.n) rfl;have aw:wr.cell? ⟨g,k*3+2,none⟩=some (.string (S x.s)):=r 2 (.string (S x.s)) rfl;have p:Below wr.heap.size wr (wr.alloc (.cells #[.string (S x.op),.int .i64 x.n,.string (S x.s)] 28)):=Zaa (Yab _ _) _;have t:=Hd p;have P:Hid (Calls prog ah (#[.agg #[.string (S x.op),.int .i64 x.n,.string (S x.s)]]++m) (wr.alloc (.cells #[.string (S x.op),.int .i64 x.n,.string (S x.s)] 28)) (fun e au=>∃z,e=.returned z/\InsR (fun i=>(wr.alloc (.cells #[.string (S x.op),.int .i64 x.n,.string (S x.s)] 28)).heap.size<=i) au x z/\Below (wr.alloc (.cells #[.string (S x.op),.int .i64 x.n,.string (S x.s)] 28)).heap.size (wr.alloc (.cells #[.string (S x.op),.int .i64 x.n,.string (S x.s)] 28)) au)):=Hd (ay.o x _ (wr.alloc (.cells #[.string (S x.op),.int .i64 x.n,.string (S x.s)] 28)) (Yaf D) (d.o.trans (p.mono d.o.size)) (InsR.st.keep O (Yae (S:=fun _=>False) p) (fun _ _=>id)));clear D r ad L p O;have aG:(0:Int)<=k:=by omega
   have aF:(k:Int)<(j:Int):=by omega
   have B:=aB.o;go_wp2_with fail;refine P.o.mono ?_;rintro e w2⟨z,rfl,ab,M⟩;have q:=Hd (t.o.trans (M.mono t.o.size));have ap:Hid (InsR (fun i=>wr.heap.size<=i) w2 x z):=Hd (InsR.st.mono ab (fun i _ W=>Yaj t.o.size W));obtain rfl:=ab;have a:=h.o.only InsR.st q.o;have E:=h.o.store InsR.st q.o aj.o ap.o rfl;have H:Below w.heap.size w (setRow w2 g (k*3) [.string (S x.op),.int .i64 x.n,.string (S x.s)]):=(d.o.trans (q.o.mono d.o.size)).trans ((ZbN (S:=fun i=>i=g) _ _ _ _ (Yak _ _) rfl).below (Yaj d.o.size q.o.size) (fun i W=>by subst W;exact h.o.ge));have al:=Hd E;have ae:=Hd H;obtain⟨aO,ai,X,f⟩:=a.elem aj.o;obtain rfl:=ai;have aH:w2.cell? ⟨g,k*3,none⟩=some (.string (S x.op)):=f 0 (.string (S x.op)) rfl;have aJ:w2.frozen? ⟨g,k*3,none⟩=false:=a.free _;have aM:w2.cell? ⟨g,k*3+1,none⟩=some (.int .i64 x.n):=f 1 (.int .i64 x.n) rfl;have aQ:w2.frozen? ⟨g,k*3+1,none⟩=false:=a.free _;have aN:w2.cell? ⟨g,k*3+2,none⟩=some (.string (S x.s)):=f 2 (.string (S x.s)) rfl;have aL:w2.frozen? ⟨g,k*3+2,none⟩=false:=a.free _;clear B a E H M f X P aC ax aw;go_wp2;go_roundw
   case rel=>
    have aD:CInv 3 InsR w.heap.size g (k+1) (((w2.setCell ⟨g,k*3,none⟩ (.string (S x.op))).setCell ⟨g,k*3+1,none⟩ (.int .i64 x.n)).setCell ⟨g,k*3+2,none⟩ (.string (S x.s))) l:=al.o;have az:Below w.heap.size w (((w2.setCell ⟨g,k*3,none⟩ (.string (S x.op))).setCell ⟨g,k*3+1,none⟩ (.int .i64 x.n)).setCell ⟨g,k*3+2,none⟩ (.string (S x.s))):=ae.o;exact⟨k+1,by omega,by go_num,aD,az⟩
   case measure=>simp[intOf];omega
  ·obtain rfl:j=k:=by omega
   go_wp2;go_ret;refine⟨_,rfl,?_,d.o⟩;have ak:=h.o;rw[U.o]at ak⊢;exact ak.done InsR.st ao.o ac.o
theorem Zoq:(prog.info? 173).map (fun i=>(i.zero,i.size,i.bytes))=some (some (.agg #[.int .i64 0,.int .i64 0,.int .i64 0,.string ⟨#[]⟩]),4,40):=by kernel_rfl
theorem Zq3 {A:Nat->Prop}{w:World}:∀x v,CatR A w x v->∀u∈v.cells.toList,u.oneCell'=true:=fun x v b u a=>by
 obtain rfl:=b;simp[Value.cells]at a;rcases a with rfl|rfl|rfl|rfl<;>rfl
theorem Zkr {A:Nat->Prop}(l:List (Cat))(sv:Value)(w:World)(j:Src 4 CatR A w sv l)(r:l.length<=1048576):Calls prog 228 #[sv] w (Zdf 4 CatR A l w):=by
 obtain⟨t,g,h,i,f⟩:=info_parts Zoq;have d:=Hd (fun ty=>ZdS (P:=prog) (w:=w) (n:=4) (by decide) CatR.st (fun x v q=>Zq3 x v q) 24 ty 173 t _ 40 underlying24 g h i f rfl j (by omega) (by omega));obtain⟨C,z,rfl⟩:=j.shape;cases C with
 |none=>
  have p:l=[]:=by
   rcases j with⟨_,_,_,q⟩|⟨b,o,c,q,_⟩
   ·exact q
   ·simp at q
  subst p;have B:=fun n c=>Lib.run_eql_slice_nil (P:=prog) w 24 173 none n c 0 0 underlying24;clear d j g h i f r;go_enter func228,ntmps228;go_wp2;go_ret;exact⟨_,rfl,.inl ⟨rfl,_,_,rfl⟩,Yab _ _⟩
 |some a=>
  generalize m:l.length=u at d⊢;have B:=Lib.run_eql_slice_nil (P:=prog) w 24 173 (some a) u z 0 0 underlying24;clear m;clear j g h i f r;go_enter func228,ntmps228
  go_wp2_with (at_builtin;(obtain⟨y,w',k,D,s⟩:=d.o _;refine Zak rfl _ _ 24 rfl _ _ y w' rfl rfl k ?_))
  go_ret;exact⟨_,rfl,D,s⟩
theorem ZnK {A:Nat->Prop}(af:Nat)(n:Array Value)(y:∀args w,(callFunc af args).run prog w=.ok (.enter af args) w)(l:List (Cat))(sv:Value)(w:World)(E:Src 4 CatR A w sv l)(ae:l.length<=1048576)(ar:Zgz CatR af n l w) :
  Calls prog 200 #[sv,.func (.func af) #[] n] w (Zcb 4 CatR l w):=by
 have T:Src 4 CatR (fun i=>i<w.heap.size) w sv l:=CatR.st.srcMono E (fun k ak _=>ak);have z:=Hd (Zkr l sv w T ae);unfold Zdf at z;obtain⟨aS,aH,rfl⟩:=T.shape;have aA:=Hd y;have aw:=Hd ar;clear y ar T E;obtain⟨m,s⟩:∃m,m=l.length:=⟨_,rfl⟩
 have R:=Hd s;rw[←s]at z ae⊢;clear s;go_enter func200,ntmps200
 go_wp2_with fail;refine z.o.mono ?_;rintro e Y⟨aK,rfl,ay,W⟩;have X:=Hd W;clear W z;rcases ay with⟨P,aQ,c,rfl⟩|⟨g,c,rfl,Q,O,L,I,G,D⟩
 ·have ao:=Hd P;clear P;go_wp2;go_loopw [11] (fun t wr=>t=.int .i64 0/\wr=Y) (fun _ _=>0)
  case atStart=>exact⟨rfl,rfl⟩
  case round=>
   obtain⟨rfl,rfl⟩:=hrel;go_wp2;go_ret;exact⟨_,rfl,by rw[ao.o];exact .inl ⟨_,_,rfl,rfl⟩,X.o⟩
 have d:CInv 4 CatR w.heap.size g 0 Y l:=Cloned.inv Q O G D;have ad:=Hd d;have al:=Hd L;have aa:=Hd I;clear d Q O L I G D;rw[←R.o];go_wp2;go_loopw [11] (fun t wr=>∃k:Nat,k<=m/\t=.int .i64 k/\CInv 4 CatR w.heap.size g k wr l/\Below w.heap.size w wr) (fun t _=>m-(intOf t).toNat)
 case atStart=>exact⟨0,Yao _,rfl,ad.o,X.o⟩
 case round=>
  obtain⟨k,ak,rfl,d,H⟩:=hrel;have h:=Hd d;have f:=Hd H;clear d H ad;by_cases aD:k<m
  ·have J:k<l.length:=by have:=R.o;omega
   obtain⟨x,B⟩:∃x,l[k]?=some x:=⟨_,Yaa J⟩
   have ah:=Hd B;obtain⟨u,ap,ab,j⟩:=h.o.elem B;have M:=ap;obtain rfl:=ap;have aB:wr.cell? ⟨g,k*4,none⟩=some (.int .i64 x.fr):=j 0 (.int .i64 x.fr) rfl;have av:wr.cell? ⟨g,k*4+1,none⟩=some (.int .i64 x.till):=j 1 (.int .i64 x.till) rfl;have au:wr.cell? ⟨g,k*4+2,none⟩=some (.int .i64 x.at_):=j 2 (.int .i64 x.at_) rfl;have az:wr.cell? ⟨g,k*4+3,none⟩=some (.string (S x.cls)):=j 3 (.string (S x.cls)) rfl;have p:Below wr.heap.size wr (wr.alloc (.cells #[.int .i64 x.fr,.int .i64 x.till,.int .i64 x.at_,.string (S x.cls)] 173)):=Zaa (Yab _ _) _;have r:=Hd p;have N:Hid (Calls prog af (#[.agg #[.int .i64 x.fr,.int .i64 x.till,.int .i64 x.at_,.string (S x.cls)]]++n) (wr.alloc (.cells #[.int .i64 x.fr,.int .i64 x.till,.int .i64 x.at_,.string (S x.cls)] 173)) (fun e aq=>∃v,e=.returned v/\CatR (fun i=>(wr.alloc (.cells #[.int .i64 x.fr,.int .i64 x.till,.int .i64 x.at_,.string (S x.cls)] 173)).heap.size<=i) aq x v/\Below (wr.alloc (.cells #[.int .i64 x.fr,.int .i64 x.till,.int .i64 x.at_,.string (S x.cls)] 173)).heap.size (wr.alloc (.cells #[.int .i64 x.fr,.int .i64 x.till,.int .i64 x.at_,.string (S x.cls)] 173)) aq)):=Hd (aw.o x _ (wr.alloc (.cells #[.int .i64 x.fr,.int .i64 x.till,.int .i64 x.at_,.string (S x.cls)] 173)) (Yaf B) (f.o.trans (p.mono f.o.size)) (CatR.st.keep M (Yae (S:=fun _=>False) p) (fun _ _=>id)));clear B j ab J p M;have aF:(0:Int)<=k:=by omega
   have aE:(k:Int)<(m:Int):=by omega
   have y:=aA.o;go_wp2_with fail;refine N.o.mono ?_;rintro e w2⟨v,rfl,Z,K⟩;have q:=Hd (r.o.trans (K.mono r.o.size));have am:Hid (CatR (fun i=>wr.heap.size<=i) w2 x v):=Hd (CatR.st.mono Z (fun i _ U=>Yaj r.o.size U));obtain rfl:=Z;have a:=h.o.only CatR.st q.o;have C:=h.o.store CatR.st q.o ah.o am.o rfl;have F:Below w.heap.size w (setRow w2 g (k*4) [.int .i64 x.fr,.int .i64 x.till,.int .i64 x.at_,.string (S x.cls)]):=(f.o.trans (q.o.mono f.o.size)).trans ((ZbN (S:=fun i=>i=g) _ _ _ _ (Yak _ _) rfl).below (Yaj f.o.size q.o.size) (fun i U=>by subst U;exact h.o.ge));have aj:=Hd C;have ac:=Hd F;obtain⟨aP,ag,V,b⟩:=a.elem ah.o;obtain rfl:=ag;have aG:w2.cell? ⟨g,k*4,none⟩=some (.int .i64 x.fr):=b 0 (.int .i64 x.fr) rfl;have aJ:w2.frozen? ⟨g,k*4,none⟩=false:=a.free _;have aM:w2.cell? ⟨g,k*4+1,none⟩=some (.int .i64 x.till):=b 1 (.int .i64 x.till) rfl;have aR:w2.frozen? ⟨g,k*4+1,none⟩=false:=a.free _;have aN:w2.cell? ⟨g,k*4+2,none⟩=some (.int .i64 x.at_):=b 2 (.int .i64 x.at_) rfl;have aL:w2.frozen? ⟨g,k*4+2,none⟩=false:=a.free _;have aI:w2.cell? ⟨g,k*4+3,none⟩=some (.string (S x.cls)):=b 3 (.string (S x.cls)) rfl;have aO:w2.frozen? ⟨g,k*4+3,none⟩=false:=a.free _;clear y a C F K b V N aB av au az;go_wp2;go_roundw
   case rel=>
    have aC:CInv 4 CatR w.heap.size g (k+1) ((((w2.setCell ⟨g,k*4,none⟩ (.int .i64 x.fr)).setCell ⟨g,k*4+1,none⟩ (.int .i64 x.till)).setCell ⟨g,k*4+2,none⟩ (.int .i64 x.at_)).setCell ⟨g,k*4+3,none⟩ (.string (S x.cls))) l:=aj.o;have ax:Below w.heap.size w ((((w2.setCell ⟨g,k*4,none⟩ (.int .i64 x.fr)).setCell ⟨g,k*4+1,none⟩ (.int .i64 x.till)).setCell ⟨g,k*4+2,none⟩ (.int .i64 x.at_)).setCell ⟨g,k*4+3,none⟩ (.string (S x.cls))):=ac.o;exact⟨k+1,by omega,by go_num,aC,ax⟩
   case measure=>simp[intOf];omega
  ·obtain rfl:m=k:=by omega
   go_wp2;go_ret;refine⟨_,rfl,?_,f.o⟩;have ai:=h.o;rw[R.o]at ai⊢;exact ai.done CatR.st al.o aa.o
theorem Zot:(prog.info? 26).map (fun i=>(i.zero,i.size,i.bytes))=some (some (.agg #[.string ⟨#[]⟩,.slice none 0 0,.string ⟨#[]⟩,.bool false,.int .i64 0,.slice none 0 0,.slice none 0 0]),7,120):=by kernel_rfl
theorem Zq6 {A:Nat->Prop}{w:World}:∀x v,MthR A w x v->∀u∈v.cells.toList,u.oneCell'=true:=fun x v l u a=>by
 obtain⟨j,i,d,rfl,⟨g,c,rfl⟩,⟨h,f,rfl⟩,⟨b,k,rfl⟩⟩:=Zaj l;simp[Value.cells]at a;rcases a with rfl|rfl|rfl|rfl|rfl|rfl|rfl<;>rfl
theorem Zku {A:Nat->Prop}(l:List (Mth))(sv:Value)(w:World)(j:Src 7 MthR A w sv l)(r:l.length<=1048576):Calls prog 197 #[sv] w (Zdf 7 MthR A l w):=by
 obtain⟨t,g,h,i,f⟩:=info_parts Zot;have d:=Hd (fun ty=>ZdS (P:=prog) (w:=w) (n:=7) (by decide) MthR.st (fun x v q=>Zq6 x v q) 68 ty 26 t _ 120 underlying68 g h i f rfl j (by omega) (by omega));obtain⟨C,z,rfl⟩:=j.shape;cases C with
 |none=>
  have p:l=[]:=by
   rcases j with⟨_,_,_,q⟩|⟨b,o,c,q,_⟩
   ·exact q
   ·simp at q
  subst p;have B:=fun n c=>Lib.run_eql_slice_nil (P:=prog) w 68 26 none n c 0 0 underlying68;clear d j g h i f r;go_enter func197,ntmps197;go_wp2;go_ret;exact⟨_,rfl,.inl ⟨rfl,_,_,rfl⟩,Yab _ _⟩
 |some a=>
  generalize m:l.length=u at d⊢;have B:=Lib.run_eql_slice_nil (P:=prog) w 68 26 (some a) u z 0 0 underlying68;clear m;clear j g h i f r;go_enter func197,ntmps197
  go_wp2_with (at_builtin;(obtain⟨y,w',k,D,s⟩:=d.o _;refine Zak rfl _ _ 68 rfl _ _ y w' rfl rfl k ?_))
  go_ret;exact⟨_,rfl,D,s⟩
theorem ZnN {A:Nat->Prop}(aF:Nat)(v:Array Value)(L:∀args w,(callFunc aF args).run prog w=.ok (.enter aF args) w)(l:List (Mth))(sv:Value)(w:World)(R:Src 7 MthR A w sv l)(aE:l.length<=1048576)(aQ:Zgz MthR aF v l w) :
  Calls prog 137 #[sv,.func (.func aF) #[] v] w (Zcb 7 MthR l w):=by
 have ap:Src 7 MthR (fun i=>i<w.heap.size) w sv l:=MthR.st.srcMono R (fun k aJ _=>aJ);have M:=Hd (Zku l sv w ap aE);unfold Zdf at M;obtain⟨bo,a7,rfl⟩:=ap.shape;have aZ:=Hd L;have aU:=Hd aQ;clear L aQ ap R;obtain⟨t,E⟩:∃t,t=l.length:=⟨_,rfl⟩
 have al:=Hd E;rw[←E]at M aE⊢;clear E;go_enter func137,ntmps137
 go_wp2_with fail;refine M.o.mono ?_;rintro e aw⟨bc,rfl,aW,au⟩;have av:=Hd au;clear au M;rcases aW with⟨aj,bk,c,rfl⟩|⟨g,c,rfl,ak,ai,ad,Y,U,P⟩
 ·have aN:=Hd aj;clear aj;go_wp2;go_loopw [11] (fun I wr=>I=.int .i64 0/\wr=aw) (fun _ _=>0)
  case atStart=>exact⟨rfl,rfl⟩
  case round=>
   obtain⟨rfl,rfl⟩:=hrel;go_wp2;go_ret;exact⟨_,rfl,by rw[aN.o];exact .inl ⟨_,_,rfl,rfl⟩,av.o⟩
 have q:CInv 7 MthR w.heap.size g 0 aw l:=Cloned.inv ak ai U P;have aB:=Hd q;have aL:=Hd ad;have ax:=Hd Y;clear q ak ai ad Y U P;rw[←al.o];go_wp2;go_loopw [11] (fun I wr=>∃k:Nat,k<=t/\I=.int .i64 k/\CInv 7 MthR w.heap.size g k wr l/\Below w.heap.size w wr) (fun I _=>t-(intOf I).toNat)
 case atStart=>exact⟨0,Yao _,rfl,aB.o,av.o⟩
 case round=>
  obtain⟨k,aJ,rfl,q,X⟩:=hrel;have s:=Hd q;have r:=Hd X;clear q X aB;by_cases a3:k<t
  ·have ab:k<l.length:=by have:=al.o;omega
   obtain⟨x,N⟩:∃x,l[k]?=some x:=⟨_,Yaa ab⟩
   have aG:=Hd N;obtain⟨u,aO,ay,p⟩:=s.o.elem N;have af:=aO;obtain⟨aD,aC,aK,rfl,⟨h,n,rfl⟩,⟨f,j,rfl⟩,⟨m,d,rfl⟩⟩:=Zaj aO;have a0:wr.cell? ⟨g,k*7,none⟩=some (.string (S x.name)):=p 0 (.string (S x.name)) rfl;have aT:wr.cell? ⟨g,k*7+1,none⟩=some (.slice h x.params.length n):=p 1 (.slice h x.params.length n) rfl;have aR:wr.cell? ⟨g,k*7+2,none⟩=some (.string (S x.res)):=p 2 (.string (S x.res)) rfl;have aY:wr.cell? ⟨g,k*7+3,none⟩=some (.bool x.abs):=p 3 (.bool x.abs) rfl;have a1:wr.cell? ⟨g,k*7+4,none⟩=some (.int .i64 x.loc):=p 4 (.int .i64 x.loc) rfl;have aX:wr.cell? ⟨g,k*7+5,none⟩=some (.slice f x.code.length j):=p 5 (.slice f x.code.length j) rfl;have aS:wr.cell? ⟨g,k*7+6,none⟩=some (.slice m x.cats.length d):=p 6 (.slice m x.cats.length d) rfl;have y:Below wr.heap.size wr (wr.alloc (.cells #[.string (S x.name),.slice h x.params.length n,.string (S x.res),.bool x.abs,.int .i64 x.loc,.slice f x.code.length j,.slice m x.cats.length d] 26)):=Zaa (Yab _ _) _;have D:=Hd y;have ag:Hid (Calls prog aF (#[.agg #[.string (S x.name),.slice h x.params.length n,.string (S x.res),.bool x.abs,.int .i64 x.loc,.slice f x.code.length j,.slice m x.cats.length d]]++v) (wr.alloc (.cells #[.string (S x.name),.slice h x.params.length n,.string (S x.res),.bool x.abs,.int .i64 x.loc,.slice f x.code.length j,.slice m x.cats.length d] 26)) (fun e aP=>∃K,e=.returned K/\MthR (fun i=>(wr.alloc (.cells #[.string (S x.name),.slice h x.params.length n,.string (S x.res),.bool x.abs,.int .i64 x.loc,.slice f x.code.length j,.slice m x.cats.length d] 26)).heap.size<=i) aP x K/\Below (wr.alloc (.cells #[.string (S x.name),.slice h x.params.length n,.string (S x.res),.bool x.abs,.int .i64 x.loc,.slice f x.code.length j,.slice m x.cats.length d] 26)).heap.size (wr.alloc (.cells #[.string (S x.name),.slice h x.params.length n,.string (S x.res),.bool x.abs,.int .i64 x.loc,.slice f x.code.length j,.slice m x.cats.length d] 26)) aP)):=Hd (aU.o x _ (wr.alloc (.cells #[.string (S x.name),.slice h x.params.length n,.string (S x.res),.bool x.abs,.int .i64 x.loc,.slice f x.code.length j,.slice m x.cats.length d] 26)) (Yaf N) (r.o.trans (y.mono r.o.size)) (MthR.st.keep af (Yae (S:=fun _=>False) y) (fun _ _=>id)));clear N p ay ab y af;have a5:(0:Int)<=k:=by omega
   have a4:(k:Int)<(t:Int):=by omega
   have L:=aZ.o;go_wp2_with fail;refine ag.o.mono ?_;rintro e w2⟨K,rfl,ao,ac⟩;have z:=Hd (D.o.trans (ac.mono D.o.size));have aM:Hid (MthR (fun i=>wr.heap.size<=i) w2 x K):=Hd (MthR.st.mono ao (fun i _ aq=>Yaj D.o.size aq));have az:=ao;obtain⟨aD,aC,aK,rfl,⟨B,H,rfl⟩,⟨G,F,rfl⟩,⟨C,J,rfl⟩⟩:=Zaj ao;have a:=s.o.only MthR.st z.o;have O:=s.o.store MthR.st z.o aG.o aM.o rfl;have T:Below w.heap.size w (setRow w2 g (k*7) [.string (S x.name),.slice B x.params.length H,.string (S x.res),.bool x.abs,.int .i64 x.loc,.slice G x.code.length F,.slice C x.cats.length J]):=(r.o.trans (z.o.mono r.o.size)).trans ((ZbN (S:=fun i=>i=g) _ _ _ _ (Yak _ _) rfl).below (Yaj r.o.size z.o.size) (fun i aq=>by subst aq;exact s.o.ge));have aI:=Hd O;have aA:=Hd T;obtain⟨bj,aa,ar,b⟩:=a.elem aG.o;have am:=aa;obtain⟨aD,aC,aK,rfl,⟨Q,ah,rfl⟩,⟨V,W,rfl⟩,⟨ae,Z,rfl⟩⟩:=Zaj aa;have a6:w2.cell? ⟨g,k*7,none⟩=some (.string (S x.name)):=b 0 (.string (S x.name)) rfl;have bb:w2.frozen? ⟨g,k*7,none⟩=false:=a.free _;have bf:w2.cell? ⟨g,k*7+1,none⟩=some (.slice Q x.params.length ah):=b 1 (.slice Q x.params.length ah) rfl;have bm:w2.frozen? ⟨g,k*7+1,none⟩=false:=a.free _;have bg:w2.cell? ⟨g,k*7+2,none⟩=some (.string (S x.res)):=b 2 (.string (S x.res)) rfl;have bd:w2.frozen? ⟨g,k*7+2,none⟩=false:=a.free _;have a9:w2.cell? ⟨g,k*7+3,none⟩=some (.bool x.abs):=b 3 (.bool x.abs) rfl;have bh:w2.frozen? ⟨g,k*7+3,none⟩=false:=a.free _;have ba:w2.cell? ⟨g,k*7+4,none⟩=some (.int .i64 x.loc):=b 4 (.int .i64 x.loc) rfl;have a8:w2.frozen? ⟨g,k*7+4,none⟩=false:=a.free _;have bi:w2.cell? ⟨g,k*7+5,none⟩=some (.slice V x.code.length W):=b 5 (.slice V x.code.length W) rfl;have bp:w2.frozen? ⟨g,k*7+5,none⟩=false:=a.free _;have bn:w2.cell? ⟨g,k*7+6,none⟩=some (.slice ae x.cats.length Z):=b 6 (.slice ae x.cats.length Z) rfl;have bl:w2.frozen? ⟨g,k*7+6,none⟩=false:=a.free _;clear L a O T ac b ar ag a0 aT aR aY a1 aX aS az am;go_wp2;go_roundw
   case rel=>
    have a2:CInv 7 MthR w.heap.size g (k+1) (((((((w2.setCell ⟨g,k*7,none⟩ (.string (S x.name))).setCell ⟨g,k*7+1,none⟩ (.slice B x.params.length H)).setCell ⟨g,k*7+2,none⟩ (.string (S x.res))).setCell ⟨g,k*7+3,none⟩ (.bool x.abs)).setCell ⟨g,k*7+4,none⟩ (.int .i64 x.loc)).setCell ⟨g,k*7+5,none⟩ (.slice G x.code.length F)).setCell ⟨g,k*7+6,none⟩ (.slice C x.cats.length J)) l:=aI.o;have aV:Below w.heap.size w (((((((w2.setCell ⟨g,k*7,none⟩ (.string (S x.name))).setCell ⟨g,k*7+1,none⟩ (.slice B x.params.length H)).setCell ⟨g,k*7+2,none⟩ (.string (S x.res))).setCell ⟨g,k*7+3,none⟩ (.bool x.abs)).setCell ⟨g,k*7+4,none⟩ (.int .i64 x.loc)).setCell ⟨g,k*7+5,none⟩ (.slice G x.code.length F)).setCell ⟨g,k*7+6,none⟩ (.slice C x.cats.length J)):=aA.o;exact⟨k+1,by omega,by go_num,a2,aV⟩
   case measure=>simp[intOf];omega
  ·obtain rfl:t=k:=by omega
   go_wp2;go_ret;refine⟨_,rfl,?_,r.o⟩;have aH:=s.o;rw[al.o]at aH⊢;exact aH.done MthR.st aL.o ax.o
