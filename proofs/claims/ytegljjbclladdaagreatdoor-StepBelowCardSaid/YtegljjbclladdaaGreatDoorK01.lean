/- laws -/
import Derived.Deep.Draws
import Derived.Deep.MidRow
import Derived.Lib.Bytes
import Derived.Lib.Hide
import Derived.Lib.VarintMem
import Derived.Maps.RangeWalk
import Derived.WalkKit
set_option maxRecDepth 100000
set_option maxHeartbeats 16000000
namespace Go.Proofs.YtegljjbclladdaaGreatDoor
open Go.RowKit
theorem _root_.Go.RowKit.Hid.o {p:Prop}(a:Go.RowKit.Hid p):p:=a.out
theorem Hd {p:Prop}(a:p):Hid p:=Lib.hid a
theorem ZhX {k:IntKind}{a b:Int}(c:a=b):Ending.returned (.int k a)=.returned (.int k b):=by rw[c]
def S (l:List UInt8):ByteArray:=⟨l.toArray⟩
theorem Zat (l:List UInt8):(S l).size=l.length:=by simp[S,ByteArray.size]
theorem ZkF (l:List UInt8):(S l).data.toList=l:=by simp[S]
theorem Zcy (a b:List UInt8):S a++S b=S (a++b):=by
 apply ByteArray.ext;simp[S]
theorem Zaf (l:List UInt8):(S l).toList=l:=by rw[Go.Lib.toList_data];exact ZkF l
theorem Zp6 (l:List UInt8)(i:Nat):(S l).get! i=l.getD i 0:=by
 unfold ByteArray.get! S;simp[List.getD];rfl
theorem ZfC (l:List UInt8)(k:Nat):(S l).extract k (S l).size=S (l.drop k):=by
 apply ByteArray.ext;apply Array.ext';simp[S,ByteArray.size];apply List.take_of_length_le;simp
theorem ZgG (l:List UInt8)(k:Nat):(S l).extract 0 k=S (l.take k):=by
 apply ByteArray.ext;apply Array.ext';simp[S]
theorem Zne (s:ByteArray):S s.data.toList=s:=by
 apply ByteArray.ext;simp[S]
theorem ZsL (s:ByteArray)(a:s.size<=maxLen):s.data.toList.length<=9223372036854775807:=by
 have e:s.data.toList.length=s.size:=Array.length_toList;rw[e];exact a
theorem S_at (l:List UInt8)(k:Nat)(a:k<l.length)(b:k<(S l).size):((S l)[k]'b)=l.getD k 0:=by
 simp[S,List.getD,List.getElem?_eq_getElem a];rfl

structure Only (S:Nat->Prop) (w w':World):Prop where
 os:w'.os=w.os
 tape:w'.tape=w.tape
 output:w'.output=w.output
 size:w.heap.size<=w'.heap.size
 block:∀k,k<w.heap.size->¬S k->w'.heap[k]?=w.heap[k]?

theorem Only.refl (S:Nat->Prop)(w:World):Only S w w:=⟨rfl,rfl,rfl,Nat.le_refl _,fun _ _ _=>rfl⟩
theorem Only.trans {S:Nat->Prop}{a b c:World}(d:Only S a b)(k:Only S b c):Only S a c:=
 ⟨k.os.trans d.os,k.tape.trans d.tape,k.output.trans d.output,Nat.le_trans d.size k.size,fun i f g=>(k.block i (Nat.lt_of_lt_of_le f d.size) g).trans (d.block i f g)⟩
theorem Only.then {S j:Nat->Prop}{a b c:World}(f:Only S a b)(k:Only j b c)(h:∀i,i<a.heap.size->j i->S i):Only S a c:=
 ⟨k.os.trans f.os,k.tape.trans f.tape,k.output.trans f.output,Nat.le_trans f.size k.size,fun i d g=>(k.block i (Nat.lt_of_lt_of_le d f.size) (fun t=>g (h i d t))).trans (f.block i d g)⟩
theorem Only.mono {S h:Nat->Prop}{a b:World}(c:Only S a b)(g:∀i,i<a.heap.size->S i->h i):Only h a b:=
 ⟨c.os,c.tape,c.output,c.size,fun i d f=>c.block i d (fun s=>f (g i d s))⟩
theorem Only.drew {S:Nat->Prop}{a w:World}(b:Only S a w):Only S a w.drew:=⟨b.os,b.tape,b.output,b.size,b.block⟩
theorem Only.alloc {S:Nat->Prop}{a w:World}(c:Only S a w)(o:Obj):Only S a (w.alloc o):=
 c.trans ⟨rfl,rfl,rfl,by simp,fun k b _=>Below.heap_alloc _ _ _ b⟩
theorem Only.setCell {S:Nat->Prop}{a w:World}(d:Only S a w){p:Addr}(b:S p.block)(u:Value):Only S a (w.setCell p u):=
 d.trans ⟨rfl,rfl,rfl,by simp[World.setCell],fun k _ c=>Below.heap_setCell _ _ _ _ (fun e=>c (e▸b))⟩
theorem Only.grown {S:Nat->Prop}{a w w':World}{row:Option Nat}(g:Only S a w)(b:w.grownBy w' row)(d:∀k,row=some k->S k):Only S a w':=
 g.trans ⟨b.os,b.tape,b.output,b.size,fun k f c=>b.block k f (fun e=>c (d k e.symm))⟩
theorem Only.ofBelow {S:Nat->Prop}{w w':World}(a:Below w.heap.size w w'):Only S w w':=⟨a.os,a.tape,a.output,a.size,fun k b _=>a.block k b⟩
theorem Only.below {S:Nat->Prop}{w w':World}{B:Nat}(a:Only S w w')(d:B<=w.heap.size)(b:∀i,S i->B<=i):Below B w w':=
 ⟨a.os,a.tape,a.output,a.size,fun k c=>a.block k (by omega) (fun s=>by have:=b k s;omega)⟩
theorem Only.heap {S:Nat->Prop}{w w':World}{b:Nat}{o:Obj}(d:Only S w w')(a:w.heap[b]?=some o)(c:¬S b):w'.heap[b]?=some o:=
 (d.block b (lt_of_block a) c).trans a
theorem Only.cell {S:Nat->Prop}{w w':World}(d:Only S w w'){a:Addr}{v:Value}(b:w.cell? a=some v)(c:¬S a.block):w'.cell? a=some v:=
 (World.cell?_of_block (d.block a.block (World.block_lt_of_cell? w a b) c)).trans b
theorem Only.row {S:Nat->Prop}{w w':World}{B:Nat}{e:TypeId}{size:Nat}{v:Value}{n:Nat}{xs:List Value}(j:Only S w w')(c:w.ownsRow B e size v n xs)(i:∀g,v.ownBlock=some g->¬S g):w'.ownsRow B e size v n xs:=by
 refine⟨c.1,?_⟩;rcases c.2 with h|⟨g,a,d,rfl,f,b,rest⟩
 ·exact .inl h
 ·refine .inr ⟨g,a,d,rfl,f,?_,rest⟩;exact j.heap b (i g rfl)
theorem Zdb {w:World}{B C:Nat}{e:TypeId}{size:Nat}{v:Value}{n:Nat}{xs:List Value}(b:w.ownsRow B e size v n xs)(h:C<=B):w.ownsRow C e size v n xs:=by
 refine⟨b.1,?_⟩;rcases b.2 with d|⟨g,a,c,rfl,f,rest⟩
 ·exact .inl d
 ·exact .inr ⟨g,a,c,rfl,by omega,rest⟩

structure Grew (w:World) (v:Value) (w':World) (v':Value):Prop where
 only:Only (fun k=>v.ownBlock=some k) w w'
 came:v'.ownBlock=v.ownBlock\/∀g,v'.ownBlock=some g->w.heap.size<=g
theorem Grew.refl (w:World)(v:Value):Grew w v w v:=⟨Only.refl _ _,.inl rfl⟩
theorem Grew.into {w w':World}{v b:Value}(d:Grew w v w' b):∀k,k<w.heap.size->b.ownBlock=some k->v.ownBlock=some k:=by
 intro k c a;rcases d.came with e|e
 ·rw[←e];exact a
 ·have:=e k a;omega
theorem Grew.trans {a b c:World}{u v x:Value}(d:Grew a u b v)(k:Grew b v c x):Grew a u c x:=by
 refine⟨d.only.then k.only d.into,?_⟩;rcases k.came with e|e
 ·rw[e];exact d.came
 ·exact .inr fun g f=>Nat.le_trans d.only.size (e g f)
section
variable {P:Program}(w:World)
theorem Zbw (t ty e:TypeId)(i:TypeInfo)(z:Value)(size j:Nat)(A:P.underlying t=some (.slice e))(B:P.info? e=some i)(G:i.zero=some z)
  (p:i.size=size)(D:i.bytes=j)(L:z.cells.size=size)(I:0<size)
  (v:Value)(n:Nat)(xs:List Value)(l:w.ownsRow 0 e size v n xs)
  (a:Addr)(m c:Nat)(b:List Value)(y:b.length=m*size)(f:∀W u,b[W]?=some u->w.cell? (a.add W)=some u)(K:∀u∈b,u.oneCell'=true)
  (E:n+m<=maxLen)(h:(n+m)*j<=140737488355328) :
  ∃r w',(Builtin.append_ #[t,t] ty #[v,.slice (some a) m c]).run P w=.ok r w'/\w'.ownsRow 0 e size r (n+m) (xs++b)/\Grew w v w' r:=by
 obtain⟨r,w',C,T,U,O⟩:=run_append_own (P:=P) w 0 t ty e i z size j A B G p D L I v n xs l a m c b y f K E h (Nat.zero_le _);refine⟨r,w',C,T,⟨(Only.refl _ _).grown U (fun k R=>R),?_⟩⟩;have V:n+m<=9223372036854775807:=by simp only[maxLen]at E;omega
 subst p;subst D;rcases l.2 with⟨rfl,rfl⟩|⟨g,x,F,rfl,_,s,X,_,J,M⟩
 ·by_cases Q:m=0
  ·exact .inl (by rw[O.2 ⟨rfl,Q⟩])
  ·have d:=run_append_nil (P:=P) w t ty e i z A B G a m c b y f (by omega) (by omega) (by have N:=h;simp only[Nat.zero_add]at N;omega);rw[C]at d;cases d
   exact .inr fun g s=>by simp[Value.ownBlock]at s;omega
 ·by_cases q:n+m<=x
  ·have H:n*i.size+b.length<=F.size:=by rw[y,J,←Nat.add_mul];exact Nat.mul_le_mul_right _ q
   have d:=run_append_room (P:=P) w t ty e i A B g n x F s a m c b y f K q H;rw[C]at d;cases d
   exact .inl rfl
  ·have d:=run_append_grow (P:=P) w t ty e i z A B G ⟨g,0,none⟩ n x xs l.1 (l.cells (g:=g) rfl) a m c b y f (by omega) (by omega) (growslice_fits (by omega) h);rw[C]at d;cases d
   exact .inr fun g s=>by simp[Value.ownBlock]at s;omega

theorem Zbo {k:Array Oper}{rest:List Oper}{o:Oper}{a:Act}{O:Exit->Act->World->Prop}(y:o.guard=none)(s x:Operand)(t:TypeId)
  (E:o.op=.call { callee:=.builtin .append,args:=#[s,x],argTypes:=#[t,t] })
  (e:TypeId)(i:TypeInfo)(z:Value)(size d:Nat)(F:P.underlying t=some (.slice e))(H:P.info? e=some i)(C:i.zero=some z)
  (h:i.size=size)(r:i.bytes=d)(B:z.cells.size=size)(q:0<size)
  (v:Value)(n:Nat)(xs:List Value)(M:a.eval s=v)(l:w.ownsRow 0 e size v n xs)
  (p:Addr)(m c:Nat)(b:List Value)(K:a.eval x=.slice (some p) m c)(N:b.length=m*size)(j:∀Q u,b[Q]?=some u->w.cell? (p.add Q)=some u)(D:∀u∈b,u.oneCell'=true)
  (A:n+m<=maxLen)(g:(n+m)*d<=140737488355328)
  (R:∀f w',w'.ownsRow 0 e size f (n+m) (xs++b)->Grew w v w' f->wpList P k O rest (a.put o.dst f) w'):wpList P k O (o::rest) a w:=by
 obtain⟨f,w',J,I,L⟩:=Zbw (P:=P) w t o.type e i z size d F H C h r B q v n xs l p m c b N j D A g;refine wpList_plain y fun T G=>?_;unfold Oper.wp;simp only[execOp,E,resolve,invoke,builtin,Sem.run_bind,Sem.run_pure,Result.andThen_ok,List.map_toArray,List.map_cons,List.map_nil,M,K,J];exact G _ _ (R f w' I L)
end

theorem Zcf {w:World}{b o:Nat}{u:Value}{cs:Array Value}{t:TypeId}{c:Nat×Nat}(f:w.heap[b]?=some (.cells cs t c)):(w.setCell ⟨b,o,none⟩ u).heap[b]?=some (.cells (cs.setIfInBounds o u) t c):=by
 have a:=lt_of_block f;have d:w.heap[b]=.cells cs t c:=by simpa[Array.getElem?_eq_getElem a]using f
 show(w.heap.modify b _)[b]?=_;rw[Array.getElem?_eq_getElem (by simpa using a),Array.getElem_modify_self,d];rfl
abbrev Zao (α:Type):=(Nat->Prop)->World->α->Value->Prop
structure Stays {α:Type} (R:Zao α):Prop where
 keep:∀ {A S:Nat->Prop} {w w':World} {x:α} {v:Value},R A w x v->Only S w w'->(∀k,A k->¬S k)->R A w' x v
 mono:∀ {A A':Nat->Prop} {w:World} {x:α} {v:Value},R A w x v->(∀k,k<w.heap.size->A k->A' k)->R A' w x v
def ZrJ (A:Nat->Prop)(w:World)(b n a:Nat):Prop:=A b/\b<w.heap.size/\n<=a/\a<=9223372036854775807
def Src {α:Type}(n:Nat)(R:Zao α)(A:Nat->Prop)(w:World)(sv:Value)(l:List α):Prop:=
 (∃c a,sv=.slice c 0 a/\l=[])\/
 ∃b o a,sv=.slice (some ⟨b,o,none⟩) l.length a/\ZrJ A w b l.length a/\
  ∀k x,l[k]?=some x->∃v,R A w x v/\v.cells.size=n/\∀d u,v.cells[d]?=some u->w.cell? ⟨b,o+k*n+d,none⟩=some u
theorem Src.shape {α:Type}{n:Nat}{R:Zao α}{A:Nat->Prop}{w:World}{sv:Value}{l:List α}(d:Src n R A w sv l):∃c a,sv=.slice c l.length a:=by
 rcases d with⟨c,a,rfl,rfl⟩|⟨b,o,a,rfl,_⟩
 ·exact⟨c,a,rfl⟩
 ·exact⟨_,a,rfl⟩
theorem Src.nil {α:Type}{n:Nat}{R:Zao α}{A:Nat->Prop}{w:World}:Src n R A w (.slice none 0 0) []:=.inl ⟨_,_,rfl,rfl⟩
theorem Stays.src {α:Type}{n:Nat}{R:Zao α}(j:Stays R):∀ {A S:Nat->Prop} {w w':World} {sv:Value} {l:List α},Src n R A w sv l->Only S w w'->(∀k,A k->¬S k)->Src n R A w' sv l:=by
 intro A S w w' sv l y a i;rcases y with y|⟨b,o,g,f,⟨d,h,c⟩,p⟩
 ·exact .inl y
 ·refine .inr ⟨b,o,g,f,⟨d,Nat.lt_of_lt_of_le h a.size,c⟩,fun k x q=>?_⟩;obtain⟨v,m,s,r⟩:=p k x q;exact⟨v,j.keep m a i,s,fun z u t=>a.cell (r z u t) (i b d)⟩
theorem Stays.srcMono {α:Type}{n:Nat}{R:Zao α}(h:Stays R):∀ {A A':Nat->Prop} {w:World} {sv:Value} {l:List α},Src n R A w sv l->(∀k,k<w.heap.size->A k->A' k)->Src n R A' w sv l:=by
 intro A A' w sv l s g;rcases s with s|⟨b,o,f,d,⟨i,a,c⟩,m⟩
 ·exact .inl s
 ·refine .inr ⟨b,o,f,d,⟨g b a i,a,c⟩,fun k x p=>?_⟩;obtain⟨v,j,r,q⟩:=m k x p;exact⟨v,h.mono j g,r,q⟩
theorem Stays.below {α:Type}{n:Nat}{R:Zao α}(a:Stays R){A:Nat->Prop}{w w':World}{sv:Value}{l:List α}(c:Src n R A w sv l)(b:Below w.heap.size w w'):Src n R A w' sv l:=
 a.src c (Only.ofBelow (S:=fun _=>False) b) (fun _ _=>id)
abbrev Anyw:Nat->Prop:=fun _=>True
theorem Stays.any {α:Type}{n:Nat}{R:Zao α}(a:Stays R){A:Nat->Prop}{w:World}{sv:Value}{l:List α}(b:Src n R A w sv l):Src n R Anyw w sv l:=a.srcMono b (fun _ _ _=>trivial)
theorem Src.head {α:Type}{n:Nat}{R:Zao α}{A:Nat->Prop}{w:World}{b o c:Nat}{l:List α}(d:ZrJ A w b l.length c)
  (h:∀k x,l[k]?=some x->∃v,R A w x v/\v.cells.size=n/\∀g u,v.cells[g]?=some u->w.cell? ⟨b,o+k*n+g,none⟩=some u)(k:Nat)(f:k<=l.length):Src n R A w (.slice (some ⟨b,o,none⟩) k c) (l.take k):=by
 refine .inr ⟨b,o,c,by rw[List.length_take,Nat.min_eq_left f],⟨d.1,d.2.1,by rw[List.length_take];have:=d.2.2.1;omega,d.2.2.2⟩,fun i x a=>?_⟩;refine h i x ?_;rw[List.getElem?_take]at a;split at a
 ·exact a
 ·cases a
def Flat {α:Type}(f:α->Value):Zao α:=fun _ _ x v=>v=f x
theorem Flat.stays {α:Type}(f:α->Value):Stays (Flat f):=⟨fun a _ _=>a,fun a _=>a⟩
def ZaO (a:List Value):List Value:=a.flatMap fun v=>v.cells.toList
theorem ZjD (a:List Value)(v:Value):ZaO (a++[v])=ZaO a++v.cells.toList:=by unfold ZaO;rw[List.flatMap_append];simp
theorem ZcE {n:Nat}:∀(a:List Value),(∀v∈a,v.cells.size=n)->(ZaO a).length=a.length*n
 |[],_=>by simp[ZaO]
 |v::a,h=>by
  have b:=ZcE a (fun u d=>h u (List.mem_cons_of_mem _ d));have c:=h v List.mem_cons_self;unfold ZaO at b⊢;rw[List.flatMap_cons,List.length_append,b,Array.length_toList,c,List.length_cons,Nat.succ_mul];omega
theorem ZcP {n:Nat}:∀(a:List Value) (k b:Nat) (v:Value),(∀v∈a,v.cells.size=n)->a[k]?=some v->b<n->(ZaO a)[k*n+b]?=v.cells[b]?
 |[],k,b,v,_,h,_=>by simp at h
 |x::a,0,b,v,hn,h,hj=>by
  have c:=hn x List.mem_cons_self;simp at h;subst h;unfold ZaO;rw[List.flatMap_cons,Nat.zero_mul,Nat.zero_add,List.getElem?_append_left (by rw[Array.length_toList];omega),Array.getElem?_toList]
 |x::a,k+1,b,v,hn,h,hj=>by
  have c:=hn x List.mem_cons_self;have d:=ZcP a k b v (fun u f=>hn u (List.mem_cons_of_mem _ f)) (by simpa using h) hj;unfold ZaO at d⊢;rw[List.flatMap_cons,List.getElem?_append_right (by rw[Array.length_toList,c,Nat.succ_mul];omega),Array.length_toList,c,Nat.succ_mul,show k*n+n+b-n=k*n+b from by omega];exact d
theorem Zc7 {v:Value}{n b:Nat}{u:Value}(d:v.cells.size=n)(c:v.cells[b]?=some u):b<n:=by
 rcases Nat.lt_or_ge b n with a|a
 ·exact a
 ·rw[Array.getElem?_eq_none (by omega)]at c;cases c
structure TRow {α:Type} (n:Nat) (t:TypeId) (R:Zao α) (lo:Nat) (w:World) (vs:Value) (m:List α) (us:List Value):Prop where
 row:w.ownsRow 0 t n vs m.length (ZaO us)
 own:∀g,vs.ownBlock=some g->lo<=g
 len:us.length=m.length
 size:∀u∈us,u.cells.size=n
 each:∀(k:Nat) (x:α),m[k]?=some x->∃u:Value,us[k]?=some u/\R (fun i:Nat=>lo<=i/\vs.ownBlock≠some i) w x u
theorem TRow.nil {α:Type}{n:Nat}{t:TypeId}{R:Zao α}(lo:Nat)(w:World):TRow n t R lo w (.slice none 0 0) [] []:=
 ⟨World.ownsRow_nil _ _ _ _,fun g a=>by simp[Value.ownBlock]at a,rfl,fun u b=>by simp at b,fun k x c=>by simp at c⟩
theorem TRow.shape {α:Type}{n:Nat}{t:TypeId}{R:Zao α}{lo:Nat}{w:World}{a:Value}{m:List α}{d:List Value}(j:TRow n t R lo w a m d):∃f c,a=.slice f m.length c:=by
 rcases j.row.2 with⟨rfl,b⟩|⟨g,h,i,rfl,_⟩
 ·exact⟨_,_,by rw[b]⟩
 ·exact⟨_,_,rfl⟩
theorem TRow.lt {α:Type}{n:Nat}{t:TypeId}{R:Zao α}{lo:Nat}{w:World}{b:Value}{m:List α}{d:List Value}(k:TRow n t R lo w b m d):∀g,b.ownBlock=some g->g<w.heap.size:=by
 intro g a;rcases k.row.2 with⟨rfl,j⟩|⟨i,f,h,rfl,_,c,_⟩
 ·simp[Value.ownBlock]at a
 ·simp[Value.ownBlock]at a;subst a;exact lt_of_block c
theorem TRow.past {α:Type}{n:Nat}{t:TypeId}{R:Zao α}(h:Stays R){lo:Nat}{w w':World}{c:Value}{m:List α}{d:List Value}{S:Nat->Prop}(a:TRow n t R lo w c m d)(f:Only S w w')(b:∀k,lo<=k->¬S k):TRow n t R lo w' c m d:=by
 refine⟨f.row a.row (fun g q=>b g (a.own g q)),a.own,a.len,a.size,fun k x p=>?_⟩;obtain⟨u,j,r⟩:=a.each k x p;exact⟨u,j,h.keep r f (fun i l=>b i l.1)⟩
theorem TRow.below {α:Type}{n:Nat}{t:TypeId}{R:Zao α}(c:Stays R){lo:Nat}{w w':World}{a:Value}{m:List α}{b:List Value}(f:TRow n t R lo w a m b)(d:Below w.heap.size w w'):TRow n t R lo w' a m b:=
 f.past c (Only.ofBelow (S:=fun _=>False) d) (fun _ _=>id)
theorem TRow.snoc {α:Type}{n:Nat}{t:TypeId}{R:Zao α}(v:Stays R){lo:Nat}{w w':World}{d f:Value}{m:List α}{A:List Value}{x:α}{u:Value}(z:TRow n t R lo w d m A)(y:Grew w d w' f)
  (E:lo<=w.heap.size)(G:u.cells.size=n)(H:R (fun i=>lo<=i/\d.ownBlock≠some i) w x u)(s:w'.ownsRow 0 t n f (m.length+1) (ZaO A++u.cells.toList)):TRow n t R lo w' f (m++[x]) (A++[u]):=by
 have F:∀k,k<w.heap.size->(lo<=k/\d.ownBlock≠some k)->(lo<=k/\f.ownBlock≠some k):=fun k a ⟨h,j⟩=>⟨h,fun e=>j (y.into k a e)⟩
 have D:∀B r,R (fun i=>lo<=i/\d.ownBlock≠some i) w B r->R (fun i=>lo<=i/\f.ownBlock≠some i) w' B r:=fun B r c=>by
  have h:=v.mono (A':=fun i=>(lo<=i/\f.ownBlock≠some i)/\d.ownBlock≠some i) c (fun k a q=>⟨F k a q,q.2⟩);have j:=v.keep h y.only (fun k a=>a.2);exact v.mono j (fun k _ a=>a.1)
 refine⟨by rw[List.length_append,ZjD];exact s,fun g p=>?_,by simp[z.len],fun r c=>?_,fun k B b=>?_⟩
 ·rcases y.came with e|e
  ·exact z.own g (e▸p)
  ·exact Nat.le_trans E (e g p)
 ·rcases List.mem_append.1 c with c|c
  ·exact z.size r c
  ·rw[List.mem_singleton.1 c];exact G
 ·rcases Nat.lt_or_ge k m.length with a|a
  ·rw[List.getElem?_append_left a]at b;obtain⟨r,h,j⟩:=z.each k B b;exact⟨r,by rw[List.getElem?_append_left (by rw[z.len];exact a)];exact h,D B r j⟩
  ·rw[List.getElem?_append_right a]at b;have l:k-m.length=0:=by
    rcases Nat.eq_zero_or_pos (k-m.length)with C|C
    ·exact C
    ·rw[List.getElem?_eq_none (by simp;omega)]at b;cases b
   rw[l]at b;simp at b;subst b;exact⟨u,by rw[List.getElem?_append_right (by rw[z.len];exact a),z.len,l];rfl,D x u H⟩
theorem TRow.src {α:Type}{n:Nat}{t:TypeId}{R:Zao α}(v:Stays R){lo:Nat}{w:World}{c:Value}{m:List α}{p:List Value}(b:TRow n t R lo w c m p):Src n R (fun k=>lo<=k) w c m:=by
 rcases b.row.2 with⟨rfl,s⟩|⟨g,f,D,rfl,_,q,r,j,_⟩
 ·exact .inl ⟨_,_,rfl,List.length_eq_zero_iff.1 s⟩
 ·refine .inr ⟨g,0,f,rfl,⟨b.own g rfl,lt_of_block q,r,j⟩,fun k x A=>?_⟩;obtain⟨u,d,z⟩:=b.each k x A;have a:=b.size u (List.mem_of_getElem? d);refine⟨u,v.mono z (fun i _ y=>y.1),a,fun C E h=>?_⟩;have B:=Zc7 a h;have l:=b.row.cells (g:=g) rfl (k*n+C) E (by rw[ZcP p k C u b.size d B];exact h);rw[Addr.add_mid]at l;rw[Nat.add_assoc];exact l
theorem Src.cells {α:Type}{n:Nat}{R:Zao α}{A:Nat->Prop}{w:World}{b o:Nat}{l:List α}(m:List Value)(j:∀(k:Nat) v,m[k]?=some v->∃x,l[k]?=some x/\R A w x v/\v.cells.size=n/\∀(a:Nat) u,v.cells[a]?=some u->w.cell? ⟨b,o+k*n+a,none⟩=some u)(p:0<n) :
  ∀a u,(ZaO m)[a]?=some u->w.cell? ((⟨b,o,none⟩:Addr).add a)=some u:=by
 intro a u c;have d:∀v∈m,v.cells.size=n:=fun v r=>by
  obtain⟨k,f,rfl⟩:=List.getElem_of_mem r;obtain⟨x,_,_,i,_⟩:=j k m[k] (List.getElem?_eq_getElem f);exact i
 have s:a<m.length*n:=by
  rcases Nat.lt_or_ge a (m.length*n)with t|t
  ·exact t
  ·rw[List.getElem?_eq_none (by rw[ZcE m d];exact t)]at c;cases c
 have f:a/n<m.length:=by
  rw[Nat.div_lt_iff_lt_mul p];exact s
 have h:m[a/n]?=some m[a/n]:=List.getElem?_eq_getElem f;obtain⟨x,_,_,i,y⟩:=j _ _ h;have z:=Nat.div_add_mod a n;have g:=Nat.mod_lt a p;have q:a=a/n*n+a%n:=by rw[Nat.mul_comm];omega
 rw[q,ZcP m (a/n) (a%n) _ d h g]at c;have:=y _ _ c;rw[Addr.add_mid,q,←Nat.add_assoc];exact this
theorem Src.vals {α:Type}{n:Nat}{R:Zao α}{A:Nat->Prop}{w:World}{b o:Nat}{l:List α}
  (h:∀k x,l[k]?=some x->∃v,R A w x v/\v.cells.size=n/\∀d u,v.cells[d]?=some u->w.cell? ⟨b,o+k*n+d,none⟩=some u) :
  ∃m:List Value,m.length=l.length/\∀k v,m[k]?=some v->∃x,l[k]?=some x/\R A w x v/\v.cells.size=n/\∀d u,v.cells[d]?=some u->w.cell? ⟨b,o+k*n+d,none⟩=some u:=by
 have f:∀k:Fin l.length,∃v,R A w l[k] v/\v.cells.size=n/\∀d u,v.cells[d]?=some u->w.cell? ⟨b,o+k.val*n+d,none⟩=some u:=fun k=>h k.val l[k] (List.getElem?_eq_getElem k.isLt);refine⟨List.ofFn fun k=>Classical.choose (f k),by simp,fun k v c=>?_⟩;have a:k<l.length:=by
  rcases Nat.lt_or_ge k l.length with g|g
  ·exact g
  ·rw[List.getElem?_eq_none (by simpa using g)]at c;cases c
 rw[List.getElem?_ofFn,dif_pos a]at c;have:=Classical.choose_spec (f ⟨k,a⟩);rw[Option.some.inj c]at this;exact⟨l[k],List.getElem?_eq_getElem a,this.1,this.2.1,this.2.2⟩
end Go.Proofs.YtegljjbclladdaaGreatDoor
namespace Go.Proofs.YtegljjbclladdaaGreatDoor
open Go.RowKit Go.MapKept Go.ChangeMaps
abbrev RH:Value->Option (DataW Value×List MemPlace):=fun v=>some (.held v,[])
def MapF (P:Program)(k:TypeId)(z:Value)(w:World)(b m:Nat)(f:Lit->Value)(d:Lit->Bool):Prop:=
 ∃c,w.ownsMap P k RH b m c/\Maps.size c=m/\(∀a,c.atKey a (.held z)=.held (f a))/\∀a,Maps.has c a=d a
open Classical in
noncomputable def updF {α:Type}(f:Lit->α)(k:Lit)(v:α):Lit->α:=fun x=>if x=k then v else f x
theorem Zb5 {α:Type}(f:Lit->α)(k:Lit)(v:α):updF f k v k=v:=by simp[updF]
theorem Zbk {α:Type}(f:Lit->α){k x:Lit}(v:α)(a:x≠k):updF f k v x=f x:=by simp[updF,a]
section
variable {P:Program}{k:TypeId}{z:Value}{w:World}{b m:Nat}{f:Lit->Value}{h:Lit->Bool}
theorem MapF.lt (a:MapF P k z w b m f h):b<w.heap.size:=let⟨_,o,_⟩:=a;o.lt
theorem MapF.new (P:Program)(k:TypeId)(z:Value)(w:World):MapF P k z (w.alloc (.map #[] 0)) w.heap.size 0 (fun _=>z) (fun _=>false):=
 ⟨.map [],World.ownsMap_made w P k RH,rfl,fun _=>rfl,fun _=>rfl⟩
theorem MapF.keep {S:Nat->Prop}{w':World}(q:MapF P k z w b m f h)(l:Only S w w')(n:¬S b):MapF P k z w' b m f h:=by
 obtain⟨r,⟨es,a,c,s,i,p⟩,d,j,g⟩:=q;exact⟨r,⟨es,a,l.heap c n,s,i,p⟩,d,j,g⟩
theorem MapF.look {t e:TypeId}(q:MapF P k z w b m f h)(p:Maps.Keyed P k)(l:P.underlying t=some (.map k e))(i:(zeroValue e).run P w=.ok z w){a:Value}{g:Lit}(d:keyOf P k a=some g) :
  (Instr.lookup t (.map (some b)) a false).run P w=.ok (f g) w:=by
 obtain⟨r,o,_,j,_⟩:=q;obtain⟨v,ps,n,c⟩:=o.lookup p l i (zd:=.held z) (zp:=[]) rfl d;rw[j]at c;simp only[RH,Option.some.injEq,Prod.mk.injEq,DataW.held.injEq]at c;rw[n,c.1]
theorem MapF.look_ok {t e:TypeId}(r:MapF P k z w b m f h)(q:Maps.Keyed P k)(n:P.underlying t=some (.map k e))(j:(zeroValue e).run P w=.ok z w){a:Value}{d:Lit}(g:keyOf P k a=some d) :
  (Instr.lookup t (.map (some b)) a true).run P w=.ok (.tuple #[f d,.bool (h d)]) w:=by
 obtain⟨s,o,_,l,i⟩:=r;obtain⟨v,ps,p,c⟩:=o.look_ok q n j (zd:=.held z) (zp:=[]) rfl g;rw[l]at c;simp only[RH,Option.some.injEq,Prod.mk.injEq,DataW.held.injEq]at c;rw[p,c.1,i]
theorem MapF.len {t e:TypeId}(d:MapF P k z w b m f h)(c:P.underlying t=some (.map k e))(ty:TypeId):(Builtin.len_ #[t] ty #[.map (some b)]).run P w=.ok (.int .i64 m) w:=by
 obtain⟨g,o,a,_⟩:=d;rw[o.len c ty,a]
theorem ZkC {w':World}(d:w.mapTurned w' b):Only (fun i=>i=b) w w'/\w'.heap.size=w.heap.size:=by
 have a:=d.grown;obtain⟨es,f,j,c,k,rfl⟩:=d;exact⟨⟨a.os,a.tape,a.output,a.size,fun i h g=>a.block i h (fun e=>g (Option.some.inj e))⟩,by simp[setBlock]⟩
theorem MapF.store {t e:TypeId}(J:MapF P k z w b m f h)(u:Maps.Keyed P k)(C:P.underlying t=some (.map k e))(B:m<maxLen){l val:Value}{a:Lit}(c:keyOf P k l=some a) :
  ∃w',(Instr.mapUpdate t (.map (some b)) l val).run P w=.ok () w'/\MapF P k z w' b (if h a then m else m+1) (updF f a val) (updF h a true)/\Only (fun i=>i=b) w w'/\w'.heap.size=w.heap.size:=by
 obtain⟨H,o,r,D,p⟩:=J;obtain⟨w',F,E,s⟩:=o.store u C B (d:=.held val) (ps:=[]) c rfl;have n:=u.key c;obtain⟨A,y⟩:=ZkC s;refine⟨w',F,⟨H.put a (.held val),?_,?_,fun x=>?_,fun x=>?_⟩,A,y⟩
 ·have g:=Maps.size_put (k:=a) (o.tidy u) (.held val:DataW Value);rw[r,p]at g;obtain⟨es,j,v,I,G,q⟩:=E;refine⟨es,j,v,I,?_,q⟩;have:Maps.size (H.put a (.held val))=es.size:=by rw[q];simp[Maps.size,length_sorted]
  rw[←g,this];exact Nat.le_refl _
 ·have g:=Maps.size_put (k:=a) (o.tidy u) (.held val:DataW Value);rw[r,p]at g;exact g
 ·by_cases e:x=a
  ·subst e;rw[Maps.atKey_put_same o.isMap n,Zb5]
  ·rw[Maps.atKey_put_other e,Zbk f val e,D]
 ·by_cases e:x=a
  ·subst e;rw[Maps.has_put_same o.isMap n,Zb5]
  ·rw[Maps.has_put_other e,Zbk h true e,p]
open Classical in
noncomputable def putW (P:Program)(t:TypeId)(m a val:Value)(W:World):World:=if b:∃w',(Instr.mapUpdate t m a val).run P W=.ok () w' then b.choose else W
theorem MapF.put {t e:TypeId}(x:MapF P k z w b m f h)(v:Maps.Keyed P k)(s:P.underlying t=some (.map k e))(l:m<maxLen){a val:Value}{c:Lit}(g:keyOf P k a=some c) :
  (Instr.mapUpdate t (.map (some b)) a val).run P w=.ok () (putW P t (.map (some b)) a val w)/\MapF P k z (putW P t (.map (some b)) a val w) b (if h c then m else m+1) (updF f c val) (updF h c true)/\
   Only (fun i=>i=b) w (putW P t (.map (some b)) a val w)/\(putW P t (.map (some b)) a val w).heap.size=w.heap.size:=by
 obtain⟨w',d,n,r,p⟩:=x.store v s l (val:=val) g;have j:∃w',(Instr.mapUpdate t (.map (some b)) a val).run P w=.ok () w':=⟨w',d⟩
 have u:putW P t (.map (some b)) a val w=w':=by
  unfold putW;rw[dif_pos j];have q:=d.symm.trans j.choose_spec;injection q with _ e
  exact e.symm
 rw[u];exact⟨d,n,r,p⟩
def MapG (P:Program)(k:TypeId)(z:Value)(w:World)(b h m:Nat)(f:Lit->Value)(g:Lit->Bool)(l:Lit->Bool)(c:Nat):Prop:=
 ∃d,w.ranges P k RH b h m d l c/\(∀a,d.atKey a (.held z)=.held (f a))/\∀a,Maps.has d a=g a
theorem MapF.range {t e:TypeId}(u:MapF P k z w b m f h)(s:Maps.Keyed P k)(n:P.underlying t=some (.map k e)) :
  ∃w',(Instr.range t (.map (some b))).run P w=.ok (.pointer (some ⟨w.heap.size,0,none⟩)) w'/\MapG P k z w' b w.heap.size m f h h m/\Below w.heap.size w w'/\w'.heap.size=w.heap.size+1:=by
 obtain⟨r,o,g,j,c⟩:=u;obtain⟨w',p,d,a,l⟩:=o.range s n;have e:Maps.has r=h:=funext c;rw[e,g]at d;exact⟨w',p,⟨r,d,j,c⟩,⟨a.os,a.tape,a.output,a.size,fun i q=>a.block i q (by simp)⟩,l⟩
theorem MapG.ne {a:Nat}{l:Lit->Bool}{c:Nat}(d:MapG P k z w b a m f h l c):a≠b:=let⟨_,g,_⟩:=d;g.ne
theorem MapG.lt {a:Nat}{l:Lit->Bool}{c:Nat}(d:MapG P k z w b a m f h l c):a<w.heap.size:=let⟨_,g,_⟩:=d;g.lt
theorem MapG.left {a:Nat}{l:Lit->Bool}{c:Nat}(d:MapG P k z w b a m f h l c):w.rangeLeft b a=c:=let⟨_,g,_⟩:=d;g.left_eq
theorem MapG.keep {s:Nat}{l:Lit->Bool}{c:Nat}{S:Nat->Prop}{w':World}(y:MapG P k z w b s m f h l c)(j:Only S w w')(u:¬S b)(v:¬S s):MapG P k z w' b s m f h l c:=by
 obtain⟨A,⟨es,a,d,g,x,n,B,t,q,i,rest⟩,r,p⟩:=y;exact⟨A,⟨es,a,d,g,x,j.heap n u,B,t,q,j.heap i v,rest⟩,r,p⟩
theorem MapG.next {r:Nat}{l:Lit->Bool}{c:Nat}(M:MapG P k z w b r m f h l c)(K:Maps.Keyed P k)(ty:TypeId) :
  (c=0/\(∀a,l a=false)/\(Instr.next (.pointer (some ⟨r,0,none⟩)) false ty).run P w=.ok (.tuple #[.bool false]) w)\/
  ∃d a w' n,keyOf P k d=some a/\l a=true/\(Instr.next (.pointer (some ⟨r,0,none⟩)) false ty).run P w=.ok (.tuple #[.bool true,d,f a]) w'/\
   MapG P k z w' b r m f h (fun x=>l x&&!x.sameKey a) n/\n<c/\Only (fun i=>i=r) w w'/\w'.heap.size=w.heap.size/\(Instr.entry (.pointer (some ⟨r,0,none⟩))).run P w'=.ok (.tuple #[d,f a]) w':=by
 obtain⟨L,g,t,H⟩:=M;rcases g.next K ty with y|⟨d,v,a,N,w',n,q,J,D,u,p,C,G,j,I,s⟩
 ·exact Or.inl y
 ·have B:N=(.held v,[]):=(Option.some.inj D).symm;have A:v=f a:=by
   have:=u (.held z);rw[t,B]at this;simpa using this.symm
  subst A;exact Or.inr ⟨d,a,w',n,q,J,p,⟨L,C,t,H⟩,G,⟨j.os,j.tape,j.output,j.size,fun i F E=>j.block i F (fun e=>E (Option.some.inj e))⟩,I,s⟩
end
theorem Yaa:type_of% @List.getElem?_eq_getElem:=@List.getElem?_eq_getElem
theorem Yab:type_of% @Below.refl:=@Below.refl
theorem Yac:type_of% @Option.some.inj:=@Option.some.inj
theorem Yad:type_of% @Nat.le_refl:=@Nat.le_refl
theorem Yae:type_of% @Only.ofBelow:=@Only.ofBelow
theorem Yaf:type_of% @List.mem_of_getElem?:=@List.mem_of_getElem?
theorem Yag:type_of% @List.getElem?_eq_some_iff:=@List.getElem?_eq_some_iff
theorem Yah:type_of% @beq_eq_false_iff_ne:=@beq_eq_false_iff_ne
theorem Yai:type_of% @List.mem_cons:=@List.mem_cons
theorem Yaj:type_of% @Nat.le_trans:=@Nat.le_trans
theorem Yak:type_of% @Only.refl:=@Only.refl
theorem Yal:type_of% @List.length_append:=@List.length_append
theorem Yam:type_of% @List.mem_cons_self:=@List.mem_cons_self
theorem Yan:type_of% @decide_eq_false:=@decide_eq_false
theorem Yao:type_of% @Nat.zero_le:=@Nat.zero_le
theorem Yap:type_of% @List.getD_eq_getElem?_getD:=@List.getD_eq_getElem?_getD
theorem Yaq:type_of% @List.mem_append:=@List.mem_append
theorem Yar:type_of% @if_neg:=@if_neg
theorem Yas:type_of% @decide_eq_true:=@decide_eq_true
theorem Yat:type_of% @List.not_mem_nil:=@List.not_mem_nil
theorem Yau:type_of% @List.mem_cons_of_mem:=@List.mem_cons_of_mem
theorem Yav:type_of% @List.getElem?_map:=@List.getElem?_map
theorem Yaw:type_of% @Bool.and_eq_true:=@Bool.and_eq_true
theorem Yax:type_of% @List.mem_singleton:=@List.mem_singleton
theorem Yay:type_of% @if_pos:=@if_pos
theorem Yaz:type_of% @List.take_of_length_le:=@List.take_of_length_le
theorem YaA:type_of% @List.length_take:=@List.length_take
theorem YaB:type_of% @List.length_map:=@List.length_map
theorem YaC:type_of% @Nat.lt_or_ge:=@Nat.lt_or_ge
theorem YaD:type_of% @Array.getElem?_setIfInBounds:=@Array.getElem?_setIfInBounds
theorem YaE:type_of% @List.take_length:=@List.take_length
theorem YaF:type_of% @List.all_eq_true:=@List.all_eq_true
theorem YaG:type_of% @Bool.true_and:=@Bool.true_and
theorem YaH:type_of% @Nat.mul_one:=@Nat.mul_one
theorem YaI:type_of% @List.length_cons:=@List.length_cons
theorem YaJ:type_of% @List.getElem?_append_right:=@List.getElem?_append_right
theorem YaK:type_of% @List.take_add_one:=@List.take_add_one
theorem YaL:type_of% @Option.isSome_iff_exists:=@Option.isSome_iff_exists
theorem YaM:type_of% @List.foldl_cons:=@List.foldl_cons
theorem YaN:type_of% @List.append_nil:=@List.append_nil
theorem YaO:type_of% @Option.map_eq_some_iff:=@Option.map_eq_some_iff
theorem YaP:type_of% @decide_eq_true_eq:=@decide_eq_true_eq
theorem YaQ:type_of% @Bool.false_and:=@Bool.false_and
theorem YaR:type_of% @List.getElem?_append_left:=@List.getElem?_append_left
theorem YaS:type_of% @List.getElem?_eq_none:=@List.getElem?_eq_none
theorem YaT:type_of% @List.cons.injEq:=@List.cons.injEq
theorem YaU:type_of% @List.any_eq_true:=@List.any_eq_true
theorem YaV:type_of% @Bool.false_or:=@Bool.false_or
theorem YaW:type_of% @List.any_eq_false:=@List.any_eq_false
theorem YaX:type_of% @List.findIdx?_eq_some_iff_getElem:=@List.findIdx?_eq_some_iff_getElem
theorem YaY:type_of% @List.append_assoc:=@List.append_assoc
theorem YaZ:type_of% @Bool.or_eq_true:=@Bool.or_eq_true
theorem Ya0:type_of% @List.length_eq_zero_iff:=@List.length_eq_zero_iff
theorem Ya1:type_of% @Option.some.injEq:=@Option.some.injEq
theorem Ya2:type_of% @List.mem_map:=@List.mem_map
theorem Ya3:type_of% @List.mem_append_right:=@List.mem_append_right
theorem Ya4:type_of% @List.mem_iff_getElem?:=@List.mem_iff_getElem?
theorem Ya5:type_of% @List.take_append_drop:=@List.take_append_drop
theorem Ya6:type_of% @Nat.zero_add:=@Nat.zero_add
theorem Ya7:type_of% @Nat.lt_of_lt_of_le:=@Nat.lt_of_lt_of_le
theorem Ya8:type_of% @congrArg:=@congrArg
theorem Ya9:type_of% @List.map_append:=@List.map_append
theorem Yba:type_of% @List.mem_append_left:=@List.mem_append_left
theorem Ybb:type_of% @Array.getElem?_eq_some_iff:=@Array.getElem?_eq_some_iff
theorem Ybc:type_of% @List.foldl_append:=@List.foldl_append
theorem Ybd:type_of% @List.findSome?_append:=@List.findSome?_append
theorem Ybe:type_of% @Nat.min_eq_left:=@Nat.min_eq_left
theorem Ybf:type_of% @Only.setCell:=@Only.setCell
theorem Ybg:type_of% @List.mem_of_mem_take:=@List.mem_of_mem_take
theorem Ybh:type_of% @Bool.and_assoc:=@Bool.and_assoc
theorem Ybi:type_of% @beq_self_eq_true:=@beq_self_eq_true
theorem Ybj:type_of% @Bool.not_eq_true':=@Bool.not_eq_true'
theorem Ybk:type_of% @Bool.eq_iff_iff:=@Bool.eq_iff_iff
theorem Ybl:type_of% @List.getElem?_range:=@List.getElem?_range
theorem Ybm:type_of% @List.length_replicate:=@List.length_replicate
theorem Ybn:type_of% @Addr.add_mid:=@Addr.add_mid
theorem Ybo:type_of% @List.getElem?_drop:=@List.getElem?_drop
theorem Ybp:type_of% @Only.alloc:=@Only.alloc
theorem Ybq:type_of% @List.nil_append:=@List.nil_append
theorem Ybr:type_of% @List.length_drop:=@List.length_drop
theorem Ybs:type_of% @Only.drew:=@Only.drew
theorem Ybt:type_of% @List.mem_replicate:=@List.mem_replicate
theorem Ybu:type_of% @List.set_cons_zero:=@List.set_cons_zero
theorem Ybv:type_of% @Bool.or_eq_false_iff:=@Bool.or_eq_false_iff
theorem Ybw:type_of% @List.getElem?_set_ne:=@List.getElem?_set_ne
theorem Ybx:type_of% @List.getElem?_set_self:=@List.getElem?_set_self
theorem Yby:type_of% @Array.length_toList:=@Array.length_toList
theorem Ybz:type_of% @Addr.mk.injEq:=@Addr.mk.injEq
theorem YbA:type_of% @Option.none_or:=@Option.none_or
theorem YbB:type_of% @List.count_cons:=@List.count_cons
theorem YbC:type_of% @List.set_cons_succ:=@List.set_cons_succ
theorem YbD:type_of% @List.mem_flatMap:=@List.mem_flatMap
theorem YbE:type_of% @List.take_append_of_le_length:=@List.take_append_of_le_length
theorem YbF:type_of% @List.getElem?_of_mem:=@List.getElem?_of_mem
theorem YbG:type_of% @List.findSome?_cons:=@List.findSome?_cons
theorem YbH:type_of% @List.findIdx?_cons:=@List.findIdx?_cons
theorem YbI:type_of% @List.map_cons:=@List.map_cons
theorem YbJ:type_of% @List.drop_eq_getElem_cons:=@List.drop_eq_getElem_cons
theorem YbK:type_of% @List.findIdx?_eq_none_iff:=@List.findIdx?_eq_none_iff
theorem YbL:type_of% @List.mem_of_find?_eq_some:=@List.mem_of_find?_eq_some
theorem YbM:type_of% @List.mem_range:=@List.mem_range
theorem YbN:type_of% @Nat.not_lt_zero:=@Nat.not_lt_zero
theorem YbO:type_of% @Nat.add_zero:=@Nat.add_zero
theorem YbP:type_of% @Below.mono:=@Below.mono
theorem YbQ:type_of% @List.getElem?_take:=@List.getElem?_take
theorem YbR:type_of% @Nat.eq_zero_or_pos:=@Nat.eq_zero_or_pos
theorem YbS:type_of% @List.contains_iff_mem:=@List.contains_iff_mem
theorem YbT:type_of% @List.length_set:=@List.length_set
theorem YbU:type_of% @List.range_succ:=@List.range_succ
theorem YbV:type_of% @Option.map_some:=@Option.map_some
theorem YbW:type_of% @List.findSome?_eq_some_iff:=@List.findSome?_eq_some_iff
theorem YbX:type_of% @List.setIfInBounds_toArray:=@List.setIfInBounds_toArray
theorem YbY:type_of% @List.findIdx_getElem:=@List.findIdx_getElem
theorem YbZ:type_of% @Array.getElem?_eq_getElem:=@Array.getElem?_eq_getElem
theorem Yb0:type_of% @List.take_zero:=@List.take_zero
theorem Yb1:type_of% @List.map_map:=@List.map_map
theorem Yb2:type_of% @Bool.false_eq_true:=@Bool.false_eq_true
theorem Yb3:type_of% @Bool.eq_false_iff:=@Bool.eq_false_iff
theorem Yb4:type_of% @List.all_eq_false:=@List.all_eq_false
theorem Yb5:type_of% @List.ext_getElem?:=@List.ext_getElem?
theorem Yb6:type_of% @List.flatMap_cons:=@List.flatMap_cons
theorem Yb7:type_of% @List.length_range:=@List.length_range
theorem Yb8:type_of% @List.nodup_append:=@List.nodup_append
theorem Yb9:type_of% @List.nodup_nil:=@List.nodup_nil
theorem Yca:type_of% @Array.getElem?_toList:=@Array.getElem?_toList
theorem Ycb:type_of% @List.length_singleton:=@List.length_singleton
theorem Ycc:type_of% @Nat.zero_mul:=@Nat.zero_mul
theorem Ycd:type_of% @Option.or_eq_none_iff:=@Option.or_eq_none_iff
theorem Yce:type_of% @Array.toList_inj:=@Array.toList_inj
theorem Ycf:type_of% @List.getElem_mem:=@List.getElem_mem
theorem Ycg:type_of% @List.all_cons:=@List.all_cons
theorem Ych:type_of% @List.find?_some:=@List.find?_some
theorem Yci:type_of% @List.flatMap_append:=@List.flatMap_append
theorem Ycj:type_of% @List.map_congr_left:=@List.map_congr_left
theorem Yck:type_of% @Array.ext_getElem?:=@Array.ext_getElem?
theorem Ycl:type_of% @List.find?_eq_none:=@List.find?_eq_none
theorem Ycm:type_of% @List.map_replicate:=@List.map_replicate
theorem Ycn:type_of% @Array.mk.injEq:=@Array.mk.injEq
theorem Yco:type_of% @Bool.and_false:=@Bool.and_false
theorem Ycp:type_of% @List.getElem?_take_of_lt:=@List.getElem?_take_of_lt
theorem Ycq:type_of% @List.getElem?_replicate:=@List.getElem?_replicate
theorem Ycr:type_of% @List.drop_eq_nil_of_le:=@List.drop_eq_nil_of_le
theorem Ycs:type_of% @Bool.true_or:=@Bool.true_or
theorem Yct:type_of% @List.all_append:=@List.all_append
theorem Ycu:type_of% @List.map_nil:=@List.map_nil
theorem Ycv:type_of% @List.nodup_cons:=@List.nodup_cons
theorem Ycw:type_of% @List.set_append_right:=@List.set_append_right
theorem Ycx:type_of% @Nat.le_of_eq:=@Nat.le_of_eq
theorem Ycy:type_of% @Nat.min_le_left:=@Nat.min_le_left
theorem Ycz:type_of% @Nat.sub_self:=@Nat.sub_self
theorem YcA:type_of% @List.findIdx?_append:=@List.findIdx?_append
theorem YcB:type_of% @Nat.mul_le_mul_right:=@Nat.mul_le_mul_right
theorem YcC:type_of% @List.take_take:=@List.take_take
