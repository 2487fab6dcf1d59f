/- laws -/
import Derived.WalkKit
import Derived.WalkMore
import Derived.Lib.Hide
import Derived.Lib.Bytes
import Derived.Lib.VarintMem
import Derived.Lib.AppendStr
import Derived.OneCell
import Derived.Deep.Draws
import Derived.Deep.MidRow
import Derived.Maps.OwnSet
import Derived.Maps.RangeWalk
set_option maxRecDepth 100000
set_option maxHeartbeats 16000000
namespace Go.Proofs.YtggcdinoflchjaaGreatDoor
open Go.RowKit
theorem _root_.Go.RowKit.Hid.o {p : Prop} (a : Go.RowKit.Hid p) : p := a.out
theorem Hd {p:Prop} (a:p):Hid p:=Lib.hid a
theorem ZgL {k:IntKind} {a b:Int} (c:a=b):Ending.returned (.int k a)=.returned (.int k b):=by rw [c]
def S (l:List UInt8):ByteArray:=⟨l.toArray⟩
theorem Zay (l:List UInt8):(S l).size=l.length:=by simp [S,ByteArray.size]
theorem Zje (l:List UInt8):(S l).data.toList=l:=by simp [S]
theorem Zck (a b:List UInt8):S a++S b=S (a++b):=by
 apply ByteArray.ext
 simp [S]
theorem Zae (l:List UInt8):(S l).toList=l:=by rw [Go.Lib.toList_data];exact Zje l
theorem Zn1 (l:List UInt8) (i:Nat):(S l).get! i=l.getD i 0:=by
 unfold ByteArray.get! S;simp [List.getD]
 rfl
theorem ZeQ (l:List UInt8) (k:Nat):(S l).extract k (S l).size=S (l.drop k):=by
 apply ByteArray.ext
 apply Array.ext'
 simp [S,ByteArray.size]
 apply List.take_of_length_le
 simp
theorem ZfG (l:List UInt8) (k:Nat):(S l).extract 0 k=S (l.take k):=by
 apply ByteArray.ext
 apply Array.ext'
 simp [S]
theorem Zls (s:ByteArray):S s.data.toList=s:=by
 apply ByteArray.ext
 simp [S]
theorem Zqd (s:ByteArray) (a:s.size<=maxLen):s.data.toList.length<=9223372036854775807:=by
 have e:s.data.toList.length=s.size:=Array.length_toList;rw [e];exact a
theorem S_at (l:List UInt8) (k:Nat) (a:k<l.length) (b:k<(S l).size):((S l)[k]'b)=l.getD k 0:=by
 simp [S,List.getD,List.getElem?_eq_getElem a]
 rfl

structure Only (S:Nat->Prop) (w w':World):Prop where
 os:w'.os=w.os
 tape:w'.tape=w.tape
 output:w'.output=w.output
 size:w.heap.size<=w'.heap.size
 block:∀ k,k<w.heap.size->¬ S k->w'.heap[k]? = w.heap[k]?

theorem Only.refl (S:Nat->Prop) (w:World):Only S w w:=⟨rfl,rfl,rfl,Nat.le_refl _,fun _ _ _=>rfl⟩
theorem Only.trans {S:Nat->Prop} {a b c:World} (d:Only S a b) (k:Only S b c):Only S a c:=
 ⟨k.os.trans d.os,k.tape.trans d.tape,k.output.trans d.output,Nat.le_trans d.size k.size,fun i f g=>(k.block i (Nat.lt_of_lt_of_le f d.size) g).trans (d.block i f g)⟩
theorem Only.then {S j:Nat->Prop} {a b c:World} (f:Only S a b) (k:Only j b c) (h:∀ i,i<a.heap.size->j i->S i):Only S a c:=
 ⟨k.os.trans f.os,k.tape.trans f.tape,k.output.trans f.output,Nat.le_trans f.size k.size,fun i d g=>(k.block i (Nat.lt_of_lt_of_le d f.size) (fun t=>g (h i d t))).trans (f.block i d g)⟩
theorem Only.mono {S h:Nat->Prop} {a b:World} (c:Only S a b) (f:∀ i,i<a.heap.size->S i->h i):Only h a b:=
 ⟨c.os,c.tape,c.output,c.size,fun i d g=>c.block i d (fun s=>g (f i d s))⟩
theorem Only.drew {S:Nat->Prop} {a w:World} (b:Only S a w):Only S a w.drew:=⟨b.os,b.tape,b.output,b.size,b.block⟩
theorem Only.alloc {S:Nat->Prop} {a w:World} (c:Only S a w) (o:Obj):Only S a (w.alloc o):=
 c.trans ⟨rfl,rfl,rfl,by simp,fun k b _=>Below.heap_alloc _ _ _ b⟩
theorem Only.setCell {S:Nat->Prop} {a w:World} (d:Only S a w) {p:Addr} (b:S p.block) (u:Value):Only S a (w.setCell p u):=
 d.trans ⟨rfl,rfl,rfl,by simp [World.setCell],fun k _ c=>Below.heap_setCell _ _ _ _ (fun e=>c (e ▸ b))⟩
theorem Only.grown {S:Nat->Prop} {a w w':World} {row:Option Nat} (g:Only S a w) (b:w.grownBy w' row) (f:∀ k,row=some k->S k):Only S a w':=
 g.trans ⟨b.os,b.tape,b.output,b.size,fun k c d=>b.block k c (fun e=>d (f k e.symm))⟩
theorem Only.ofBelow {S:Nat->Prop} {w w':World} (a:Below w.heap.size w w'):Only S w w':=⟨a.os,a.tape,a.output,a.size,fun k b _=>a.block k b⟩
theorem Only.below {S:Nat->Prop} {w w':World} {B:Nat} (a:Only S w w') (d:B<=w.heap.size) (b:∀ i,S i->B<=i):Below B w w':=
 ⟨a.os,a.tape,a.output,a.size,fun k c=>a.block k (by omega) (fun s=>by have:=b k s;omega)⟩
theorem Only.heap {S:Nat->Prop} {w w':World} {b:Nat} {o:Obj} (d:Only S w w') (a:w.heap[b]? = some o) (c:¬ S b):w'.heap[b]? = some o:=
 (d.block b (lt_of_block a) c).trans a
theorem Only.cell {S:Nat->Prop} {w w':World} (d:Only S w w') {a:Addr} {v:Value} (b:w.cell? a=some v) (c:¬ S a.block):w'.cell? a=some v:=
 (World.cell?_of_block (d.block a.block (World.block_lt_of_cell? w a b) c)).trans b
theorem Only.row {S:Nat->Prop} {w w':World} {B:Nat} {e:TypeId} {size:Nat} {v:Value} {n:Nat} {xs:List Value} (j:Only S w w') (a:w.ownsRow B e size v n xs) (i:∀ g,v.ownBlock=some g->¬ S g):w'.ownsRow B e size v n xs:=by
 refine ⟨a.1,?_⟩;rcases a.2 with f|⟨g,b,d,rfl,h,c,rest⟩
 ·exact .inl f
 ·refine .inr ⟨g,b,d,rfl,h,?_,rest⟩;exact j.heap c (i g rfl)
theorem ZcV {w:World} {B C:Nat} {e:TypeId} {size:Nat} {v:Value} {n:Nat} {xs:List Value} (a:w.ownsRow B e size v n xs) (h:C<=B):w.ownsRow C e size v n xs:=by
 refine ⟨a.1,?_⟩;rcases a.2 with d|⟨g,b,c,rfl,f,rest⟩
 ·exact .inl d
 ·exact .inr ⟨g,b,c,rfl,by omega,rest⟩

structure Grew (w:World) (v:Value) (w':World) (v':Value):Prop where
 only:Only (fun k=>v.ownBlock=some k) w w'
 came:v'.ownBlock=v.ownBlock\/∀ g,v'.ownBlock=some g->w.heap.size<=g
theorem Grew.refl (w:World) (v:Value):Grew w v w v:=⟨Only.refl _ _,.inl rfl⟩
theorem Grew.into {w w':World} {v b:Value} (d:Grew w v w' b):∀ k,k<w.heap.size->b.ownBlock=some k->v.ownBlock=some k:=by
 intro k c a;rcases d.came with e|e
 ·rw [←e];exact a
 ·have:=e k a;omega
theorem Grew.trans {a b c:World} {u v x:Value} (d:Grew a u b v) (k:Grew b v c x):Grew a u c x:=by
 refine ⟨d.only.then k.only d.into,?_⟩;rcases k.came with e|e
 ·rw [e];exact d.came
 ·exact .inr fun g f=>Nat.le_trans d.only.size (e g f)
section
variable {P:Program} (w:World)
theorem Zbi (t ty e:TypeId) (i:TypeInfo) (z:Value) (size l:Nat) (C:P.underlying t=some (.slice e)) (B:P.info? e=some i) (G:i.zero=some z)
  (q:i.size=size) (D:i.bytes=l) (J:z.cells.size=size) (K:0<size)
  (v:Value) (n:Nat) (xs:List Value) (j:w.ownsRow 0 e size v n xs)
  (a:Addr) (m c:Nat) (b:List Value) (r:b.length=m * size) (f:∀ X u,b[X]? = some u->w.cell? (a.add X)=some u) (L:∀ u ∈ b,u.oneCell'=true)
  (E:n+m<=maxLen) (h:(n+m) * l<=140737488355328) :
  ∃ x w',(Builtin.append_ #[t,t] ty #[v,.slice (some a) m c]).run P w=.ok x w'/\w'.ownsRow 0 e size x (n+m) (xs++b)/\Grew w v w' x:=by
 obtain ⟨x,w',A,Q,U,R⟩:=run_append_own (P:=P) w 0 t ty e i z size l C B G q D J K v n xs j a m c b r f L E h (Nat.zero_le _);refine ⟨x,w',A,Q,⟨(Only.refl _ _).grown U (fun k T=>T),?_⟩⟩;have N:n+m<=9223372036854775807:=by simp only [maxLen] at E;omega
 subst q;subst D
 rcases j.2 with ⟨rfl,rfl⟩|⟨g,y,F,rfl,_,s,W,_,I,M⟩
 ·by_cases V:m=0
  ·exact .inl (by rw [R.2 ⟨rfl,V⟩])
  ·have d:=run_append_nil (P:=P) w t ty e i z C B G a m c b r f (by omega) (by omega) (by have O:=h;simp only [Nat.zero_add] at O;omega);rw [A] at d;cases d
   exact .inr fun g s=>by simp [Value.ownBlock] at s;omega
 ·by_cases p:n+m<=y
  ·have H:n * i.size+b.length<=F.size:=by rw [r,I,←Nat.add_mul];exact Nat.mul_le_mul_right _ p
   have d:=run_append_room (P:=P) w t ty e i C B g n y F s a m c b r f L p H;rw [A] at d;cases d
   exact .inl rfl
  ·have d:=run_append_grow (P:=P) w t ty e i z C B G ⟨g,0,none⟩ n y xs j.1 (j.cells (g:=g) rfl) a m c b r f (by omega) (by omega) (growslice_fits (by omega) h);rw [A] at d;cases d
   exact .inr fun g s=>by simp [Value.ownBlock] at s;omega

theorem Zbd {k:Array Oper} {rest:List Oper} {o:Oper} {a:Act} {O:Exit->Act->World->Prop} (r:o.guard=none) (s x:Operand) (t:TypeId)
  (C:o.op=.call { callee:=.builtin .append,args:=#[s,x],argTypes:=#[t,t] })
  (e:TypeId) (i:TypeInfo) (z:Value) (size d:Nat) (M:P.underlying t=some (.slice e)) (L:P.info? e=some i) (I:i.zero=some z)
  (j:i.size=size) (q:i.bytes=d) (y:z.cells.size=size) (B:0<size)
  (v:Value) (n:Nat) (xs:List Value) (H:a.eval s=v) (l:w.ownsRow 0 e size v n xs)
  (p:Addr) (m c:Nat) (b:List Value) (N:a.eval x=.slice (some p) m c) (G:b.length=m * size) (h:∀ Q u,b[Q]? = some u->w.cell? (p.add Q)=some u) (K:∀ u ∈ b,u.oneCell'=true)
  (A:n+m<=maxLen) (f:(n+m) * d<=140737488355328)
  (R:∀ g w',w'.ownsRow 0 e size g (n+m) (xs++b)->Grew w v w' g->wpList P k O rest (a.put o.dst g) w'):wpList P k O (o :: rest) a w:=by
 obtain ⟨g,w',F,D,J⟩:=Zbi (P:=P) w t o.type e i z size d M L I j q y B v n xs l p m c b G h K A f;refine wpList_plain r fun T E=>?_
 unfold Oper.wp;simp only [execOp,C,resolve,invoke,builtin,Sem.run_bind,Sem.run_pure,Result.andThen_ok,List.map_toArray,List.map_cons,List.map_nil,H,N,F];exact E _ _ (R g w' D J)
end

theorem Zb5 {w:World} {b o:Nat} {u:Value} {cs:Array Value} {t:TypeId} {c:Nat × Nat} (f:w.heap[b]? = some (.cells cs t c)):(w.setCell ⟨b,o,none⟩ u).heap[b]? = some (.cells (cs.setIfInBounds o u) t c):=by
 have a:=lt_of_block f;have d:w.heap[b]=.cells cs t c:=by simpa [Array.getElem?_eq_getElem a] using f
 show (w.heap.modify b _)[b]? = _
 rw [Array.getElem?_eq_getElem (by simpa using a),Array.getElem_modify_self,d];rfl
abbrev Zao (α:Type):=(Nat->Prop)->World->α->Value->Prop
structure Stays {α:Type} (R:Zao α):Prop where
 keep:∀ {A S:Nat->Prop} {w w':World} {x:α} {v:Value},R A w x v->Only S w w'->(∀ k,A k->¬ S k)->R A w' x v
 mono:∀ {A A':Nat->Prop} {w:World} {x:α} {v:Value},R A w x v->(∀ k,k<w.heap.size->A k->A' k)->R A' w x v
def Zpm (A:Nat->Prop) (w:World) (b n a:Nat):Prop:=A b/\b<w.heap.size/\n<=a/\a<=9223372036854775807
def Src {α:Type} (n:Nat) (R:Zao α) (A:Nat->Prop) (w:World) (sv:Value) (l:List α):Prop:=
 (∃ c a,sv=.slice c 0 a/\l=[])\/
 ∃ b o a,sv=.slice (some ⟨b,o,none⟩) l.length a/\Zpm A w b l.length a/\
  ∀ k x,l[k]? = some x->∃ v,R A w x v/\v.cells.size=n/\∀ d u,v.cells[d]? = some u->w.cell? ⟨b,o+k * n+d,none⟩=some u
theorem Src.shape {α:Type} {n:Nat} {R:Zao α} {A:Nat->Prop} {w:World} {sv:Value} {l:List α} (d:Src n R A w sv l):∃ c a,sv=.slice c l.length a:=by
 rcases d with ⟨c,a,rfl,rfl⟩|⟨b,o,a,rfl,_⟩
 ·exact ⟨c,a,rfl⟩
 ·exact ⟨_,a,rfl⟩
theorem Src.nil {α:Type} {n:Nat} {R:Zao α} {A:Nat->Prop} {w:World}:Src n R A w (.slice none 0 0) []:=.inl ⟨_,_,rfl,rfl⟩
theorem Stays.src {α:Type} {n:Nat} {R:Zao α} (t:Stays R):∀ {A S:Nat->Prop} {w w':World} {sv:Value} {l:List α},Src n R A w sv l->Only S w w'->(∀ k,A k->¬ S k)->Src n R A w' sv l:=by
 intro A S w w' sv l m a f;rcases m with m|⟨b,o,i,h,⟨d,g,c⟩,r⟩
 ·exact .inl m
 ·refine .inr ⟨b,o,i,h,⟨d,Nat.lt_of_lt_of_le g a.size,c⟩,fun k x s=>?_⟩;obtain ⟨v,j,p,q⟩:=r k x s;exact ⟨v,t.keep j a f,p,fun z u y=>a.cell (q z u y) (f b d)⟩
theorem Stays.srcMono {α:Type} {n:Nat} {R:Zao α} (s:Stays R):∀ {A A':Nat->Prop} {w:World} {sv:Value} {l:List α},Src n R A w sv l->(∀ k,k<w.heap.size->A k->A' k)->Src n R A' w sv l:=by
 intro A A' w sv l i d;rcases i with i|⟨b,o,g,f,⟨j,a,c⟩,q⟩
 ·exact .inl i
 ·refine .inr ⟨b,o,g,f,⟨d b a j,a,c⟩,fun k x r=>?_⟩;obtain ⟨v,h,m,p⟩:=q k x r;exact ⟨v,s.mono h d,m,p⟩
theorem Stays.below {α:Type} {n:Nat} {R:Zao α} (b:Stays R) {A:Nat->Prop} {w w':World} {sv:Value} {l:List α} (c:Src n R A w sv l) (a:Below w.heap.size w w'):Src n R A w' sv l:=
 b.src c (Only.ofBelow (S:=fun _=>False) a) (fun _ _=>id)
abbrev Anyw:Nat->Prop:=fun _=>True
theorem Stays.any {α:Type} {n:Nat} {R:Zao α} (a:Stays R) {A:Nat->Prop} {w:World} {sv:Value} {l:List α} (b:Src n R A w sv l):Src n R Anyw w sv l:=a.srcMono b (fun _ _ _=>trivial)
theorem Src.head {α:Type} {n:Nat} {R:Zao α} {A:Nat->Prop} {w:World} {b o c:Nat} {l:List α} (a:Zpm A w b l.length c)
  (h:∀ k x,l[k]? = some x->∃ v,R A w x v/\v.cells.size=n/\∀ g u,v.cells[g]? = some u->w.cell? ⟨b,o+k * n+g,none⟩=some u) (k:Nat) (f:k<=l.length):Src n R A w (.slice (some ⟨b,o,none⟩) k c) (l.take k):=by
 refine .inr ⟨b,o,c,by rw [List.length_take,Nat.min_eq_left f],⟨a.1,a.2.1,by rw [List.length_take];have:=a.2.2.1;omega,a.2.2.2⟩,fun i x d=>?_⟩;refine h i x ?_;rw [List.getElem?_take] at d;split at d
 ·exact d
 ·cases d
def Flat {α:Type} (f:α->Value):Zao α:=fun _ _ x v=>v=f x
theorem Flat.stays {α:Type} (f:α->Value):Stays (Flat f):=⟨fun a _ _=>a,fun a _=>a⟩
def ZaM (a:List Value):List Value:=a.flatMap fun v=>v.cells.toList
theorem Zih (a:List Value) (v:Value):ZaM (a++[v])=ZaM a++v.cells.toList:=by unfold ZaM;rw [List.flatMap_append];simp
theorem Zcq {n:Nat}:∀ (a:List Value),(∀ v ∈ a,v.cells.size=n)->(ZaM a).length=a.length * n
 | [],_=>by simp [ZaM]
 | v :: a,h=>by
  have b:=Zcq a (fun u d=>h u (List.mem_cons_of_mem _ d));have c:=h v List.mem_cons_self;unfold ZaM at b ⊢;rw [List.flatMap_cons,List.length_append,b,Array.length_toList,c,List.length_cons,Nat.succ_mul];omega
theorem ZcA {n:Nat}:∀ (a:List Value) (k b:Nat) (v:Value),(∀ v ∈ a,v.cells.size=n)->a[k]? = some v->b<n->(ZaM a)[k * n+b]? = v.cells[b]?
 | [],k,b,v,_,h,_=>by simp at h
 | x :: a,0,b,v,hn,h,hj=>by
  have c:=hn x List.mem_cons_self;simp at h
  subst h;unfold ZaM;rw [List.flatMap_cons,Nat.zero_mul,Nat.zero_add,List.getElem?_append_left (by rw [Array.length_toList];omega),Array.getElem?_toList]
 | x :: a,k+1,b,v,hn,h,hj=>by
  have c:=hn x List.mem_cons_self;have d:=ZcA a k b v (fun u f=>hn u (List.mem_cons_of_mem _ f)) (by simpa using h) hj;unfold ZaM at d ⊢;rw [List.flatMap_cons,List.getElem?_append_right (by rw [Array.length_toList,c,Nat.succ_mul];omega),Array.length_toList,c,Nat.succ_mul,show k * n+n+b - n=k * n+b from by omega];exact d
theorem ZcR {v:Value} {n b:Nat} {u:Value} (d:v.cells.size=n) (c:v.cells[b]? = some u):b<n:=by
 rcases Nat.lt_or_ge b n with a|a
 ·exact a
 ·rw [Array.getElem?_eq_none (by omega)] at c;cases c
structure TRow {α:Type} (n:Nat) (t:TypeId) (R:Zao α) (lo:Nat) (w:World) (vs:Value) (m:List α) (us:List Value):Prop where
 row:w.ownsRow 0 t n vs m.length (ZaM us)
 own:∀ g,vs.ownBlock=some g->lo<=g
 len:us.length=m.length
 size:∀ u ∈ us,u.cells.size=n
 each:∀ (k:Nat) (x:α),m[k]? = some x->∃ u:Value,us[k]? = some u/\R (fun i:Nat=>lo<=i/\vs.ownBlock ≠ some i) w x u
theorem TRow.nil {α:Type} {n:Nat} {t:TypeId} {R:Zao α} (lo:Nat) (w:World):TRow n t R lo w (.slice none 0 0) [] []:=
 ⟨World.ownsRow_nil _ _ _ _,fun g a=>by simp [Value.ownBlock] at a,rfl,fun u b=>by simp at b,fun k x c=>by simp at c⟩
theorem TRow.shape {α:Type} {n:Nat} {t:TypeId} {R:Zao α} {lo:Nat} {w:World} {a:Value} {m:List α} {d:List Value} (j:TRow n t R lo w a m d):∃ b c,a=.slice b m.length c:=by
 rcases j.row.2 with ⟨rfl,f⟩|⟨g,h,i,rfl,_⟩
 ·exact ⟨_,_,by rw [f]⟩
 ·exact ⟨_,_,rfl⟩
theorem TRow.lt {α:Type} {n:Nat} {t:TypeId} {R:Zao α} {lo:Nat} {w:World} {b:Value} {m:List α} {d:List Value} (i:TRow n t R lo w b m d):∀ g,b.ownBlock=some g->g<w.heap.size:=by
 intro g a;rcases i.row.2 with ⟨rfl,k⟩|⟨j,f,h,rfl,_,c,_⟩
 ·simp [Value.ownBlock] at a
 ·simp [Value.ownBlock] at a
  subst a;exact lt_of_block c
theorem TRow.past {α:Type} {n:Nat} {t:TypeId} {R:Zao α} (r:Stays R) {lo:Nat} {w w':World} {b:Value} {m:List α} {f:List Value} {S:Nat->Prop} (a:TRow n t R lo w b m f) (c:Only S w w') (d:∀ k,lo<=k->¬ S k):TRow n t R lo w' b m f:=by
 refine ⟨c.row a.row (fun g p=>d g (a.own g p)),a.own,a.len,a.size,fun k x q=>?_⟩;obtain ⟨u,j,l⟩:=a.each k x q;exact ⟨u,j,r.keep l c (fun i h=>d i h.1)⟩
theorem TRow.below {α:Type} {n:Nat} {t:TypeId} {R:Zao α} (d:Stays R) {lo:Nat} {w w':World} {a:Value} {m:List α} {b:List Value} (f:TRow n t R lo w a m b) (c:Below w.heap.size w w'):TRow n t R lo w' a m b:=
 f.past d (Only.ofBelow (S:=fun _=>False) c) (fun _ _=>id)
theorem TRow.snoc {α:Type} {n:Nat} {t:TypeId} {R:Zao α} (y:Stays R) {lo:Nat} {w w':World} {d f:Value} {m:List α} {v:List Value} {x:α} {u:Value} (s:TRow n t R lo w d m v) (z:Grew w d w' f)
  (C:lo<=w.heap.size) (F:u.cells.size=n) (H:R (fun i=>lo<=i/\d.ownBlock ≠ some i) w x u) (A:w'.ownsRow 0 t n f (m.length+1) (ZaM v++u.cells.toList)):TRow n t R lo w' f (m++[x]) (v++[u]):=by
 have G:∀ k,k<w.heap.size->(lo<=k/\d.ownBlock ≠ some k)->(lo<=k/\f.ownBlock ≠ some k):=fun k a ⟨j,h⟩=>⟨j,fun e=>h (z.into k a e)⟩
 have D:∀ B l,R (fun i=>lo<=i/\d.ownBlock ≠ some i) w B l->R (fun i=>lo<=i/\f.ownBlock ≠ some i) w' B l:=fun B l c=>by
  have j:=y.mono (A':=fun i=>(lo<=i/\f.ownBlock ≠ some i)/\d.ownBlock ≠ some i) c (fun k a p=>⟨G k a p,p.2⟩);have h:=y.keep j z.only (fun k a=>a.2);exact y.mono h (fun k _ a=>a.1)
 refine ⟨by rw [List.length_append,Zih];exact A,fun g q=>?_,by simp [s.len],fun l c=>?_,fun k B b=>?_⟩
 ·rcases z.came with e|e
  ·exact s.own g (e ▸ q)
  ·exact Nat.le_trans C (e g q)
 ·rcases List.mem_append.1 c with c|c
  ·exact s.size l c
  ·rw [List.mem_singleton.1 c];exact F
 ·rcases Nat.lt_or_ge k m.length with a|a
  ·rw [List.getElem?_append_left a] at b;obtain ⟨l,j,h⟩:=s.each k B b;exact ⟨l,by rw [List.getElem?_append_left (by rw [s.len];exact a)];exact j,D B l h⟩
  ·rw [List.getElem?_append_right a] at b;have r:k - m.length=0:=by
    rcases Nat.eq_zero_or_pos (k - m.length) with E|E
    ·exact E
    ·rw [List.getElem?_eq_none (by simp;omega)] at b;cases b
   rw [r] at b;simp at b
   subst b;exact ⟨u,by rw [List.getElem?_append_right (by rw [s.len];exact a),s.len,r];rfl,D x u H⟩
theorem TRow.src {α:Type} {n:Nat} {t:TypeId} {R:Zao α} (v:Stays R) {lo:Nat} {w:World} {c:Value} {m:List α} {f:List Value} (b:TRow n t R lo w c m f):Src n R (fun k=>lo<=k) w c m:=by
 rcases b.row.2 with ⟨rfl,z⟩|⟨g,r,C,rfl,_,l,p,h,_⟩
 ·exact .inl ⟨_,_,rfl,List.length_eq_zero_iff.1 z⟩
 ·refine .inr ⟨g,0,r,rfl,⟨b.own g rfl,lt_of_block l,p,h⟩,fun k x B=>?_⟩;obtain ⟨u,q,s⟩:=b.each k x B;have a:=b.size u (List.mem_of_getElem? q);refine ⟨u,v.mono s (fun i _ A=>A.1),a,fun D E d=>?_⟩;have y:=ZcR a d;have j:=b.row.cells (g:=g) rfl (k * n+D) E (by rw [ZcA f k D u b.size q y];exact d);rw [Addr.add_mid] at j;rw [Nat.add_assoc];exact j
theorem Src.cells {α:Type} {n:Nat} {R:Zao α} {A:Nat->Prop} {w:World} {b o:Nat} {l:List α} (m:List Value) (g:∀ (k:Nat) v,m[k]? = some v->∃ x,l[k]? = some x/\R A w x v/\v.cells.size=n/\∀ (a:Nat) u,v.cells[a]? = some u->w.cell? ⟨b,o+k * n+a,none⟩=some u) (q:0<n) :
  ∀ a u,(ZaM m)[a]? = some u->w.cell? ((⟨b,o,none⟩:Addr).add a)=some u:=by
 intro a u c;have d:∀ v ∈ m,v.cells.size=n:=fun v j=>by
  obtain ⟨k,f,rfl⟩:=List.getElem_of_mem j;obtain ⟨x,_,_,i,_⟩:=g k m[k] (List.getElem?_eq_getElem f);exact i
 have h:a<m.length * n:=by
  rcases Nat.lt_or_ge a (m.length * n) with t|t
  ·exact t
  ·rw [List.getElem?_eq_none (by rw [Zcq m d];exact t)] at c;cases c
 have f:a / n<m.length:=by
  rw [Nat.div_lt_iff_lt_mul q];exact h
 have s:m[a / n]? = some m[a / n]:=List.getElem?_eq_getElem f;obtain ⟨x,_,_,i,y⟩:=g _ _ s;have z:=Nat.div_add_mod a n;have p:=Nat.mod_lt a q;have r:a=a / n * n+a % n:=by rw [Nat.mul_comm];omega
 rw [r,ZcA m (a / n) (a % n) _ d s p] at c;have:=y _ _ c;rw [Addr.add_mid,r,←Nat.add_assoc];exact this
theorem Src.vals {α:Type} {n:Nat} {R:Zao α} {A:Nat->Prop} {w:World} {b o:Nat} {l:List α}
  (h:∀ k x,l[k]? = some x->∃ v,R A w x v/\v.cells.size=n/\∀ f u,v.cells[f]? = some u->w.cell? ⟨b,o+k * n+f,none⟩=some u) :
  ∃ m:List Value,m.length=l.length/\∀ k v,m[k]? = some v->∃ x,l[k]? = some x/\R A w x v/\v.cells.size=n/\∀ f u,v.cells[f]? = some u->w.cell? ⟨b,o+k * n+f,none⟩=some u:=by
 have d:∀ k:Fin l.length,∃ v,R A w l[k] v/\v.cells.size=n/\∀ f u,v.cells[f]? = some u->w.cell? ⟨b,o+k.val * n+f,none⟩=some u:=fun k=>h k.val l[k] (List.getElem?_eq_getElem k.isLt)
 refine ⟨List.ofFn fun k=>Classical.choose (d k),by simp,fun k v c=>?_⟩;have a:k<l.length:=by
  rcases Nat.lt_or_ge k l.length with g|g
  ·exact g
  ·rw [List.getElem?_eq_none (by simpa using g)] at c;cases c
 rw [List.getElem?_ofFn,dif_pos a] at c;have:=Classical.choose_spec (d ⟨k,a⟩);rw [Option.some.inj c] at this;exact ⟨l[k],List.getElem?_eq_getElem a,this.1,this.2.1,this.2.2⟩
end Go.Proofs.YtggcdinoflchjaaGreatDoor
namespace Go.Proofs.YtggcdinoflchjaaGreatDoor
open Go.RowKit Go.MapKept Go.ChangeMaps
abbrev RH:Value->Option (DataW Value × List MemPlace):=fun v=>some (.held v,[])
def MapF (P:Program) (k:TypeId) (z:Value) (w:World) (b m:Nat) (f:Lit->Value) (d:Lit->Bool):Prop:=
 ∃ c,w.ownsMap P k RH b m c/\Maps.size c=m/\(∀ a,c.atKey a (.held z)=.held (f a))/\∀ a,Maps.has c a=d a
open Classical in
noncomputable def updF {α:Type} (f:Lit->α) (k:Lit) (v:α):Lit->α:=fun x=>if x=k then v else f x
theorem ZbX {α:Type} (f:Lit->α) (k:Lit) (v:α):updF f k v k=v:=by simp [updF]
theorem Za8 {α:Type} (f:Lit->α) {k x:Lit} (v:α) (a:x ≠ k):updF f k v x=f x:=by simp [updF,a]
section
variable {P:Program} {k:TypeId} {z:Value} {w:World} {b m:Nat} {f:Lit->Value} {h:Lit->Bool}
theorem MapF.lt (a:MapF P k z w b m f h):b<w.heap.size:=let ⟨_,o,_⟩:=a;o.lt
theorem MapF.new (P:Program) (k:TypeId) (z:Value) (w:World):MapF P k z (w.alloc (.map #[] 0)) w.heap.size 0 (fun _=>z) (fun _=>false):=
 ⟨.map [],World.ownsMap_made w P k RH,rfl,fun _=>rfl,fun _=>rfl⟩
theorem MapF.keep {S:Nat->Prop} {w':World} (q:MapF P k z w b m f h) (g:Only S w w') (p:¬ S b):MapF P k z w' b m f h:=by
 obtain ⟨r,⟨es,a,i,s,c,n⟩,d,j,l⟩:=q;exact ⟨r,⟨es,a,g.heap i p,s,c,n⟩,d,j,l⟩
theorem MapF.look {t e:TypeId} (p:MapF P k z w b m f h) (q:Maps.Keyed P k) (j:P.underlying t=some (.map k e)) (i:(zeroValue e).run P w=.ok z w) {a:Value} {g:Lit} (d:keyOf P k a=some g) :
  (Instr.lookup t (.map (some b)) a false).run P w=.ok (f g) w:=by
 obtain ⟨r,o,_,l,_⟩:=p;obtain ⟨v,ps,n,c⟩:=o.lookup q j i (zd:=.held z) (zp:=[]) rfl d;rw [l] at c;simp only [RH,Option.some.injEq,Prod.mk.injEq,DataW.held.injEq] at c;rw [n,c.1]
theorem MapF.look_ok {t e:TypeId} (q:MapF P k z w b m f h) (r:Maps.Keyed P k) (j:P.underlying t=some (.map k e)) (i:(zeroValue e).run P w=.ok z w) {a:Value} {d:Lit} (g:keyOf P k a=some d) :
  (Instr.lookup t (.map (some b)) a true).run P w=.ok (.tuple #[f d,.bool (h d)]) w:=by
 obtain ⟨s,o,_,l,n⟩:=q;obtain ⟨v,ps,p,c⟩:=o.look_ok r j i (zd:=.held z) (zp:=[]) rfl g;rw [l] at c;simp only [RH,Option.some.injEq,Prod.mk.injEq,DataW.held.injEq] at c;rw [p,c.1,n]
theorem MapF.len {t e:TypeId} (d:MapF P k z w b m f h) (c:P.underlying t=some (.map k e)) (ty:TypeId):(Builtin.len_ #[t] ty #[.map (some b)]).run P w=.ok (.int .i64 m) w:=by
 obtain ⟨g,o,a,_⟩:=d;rw [o.len c ty,a]
theorem Zjb {w':World} (c:w.mapTurned w' b):Only (fun i=>i=b) w w'/\w'.heap.size=w.heap.size:=by
 have a:=c.grown;obtain ⟨es,f,j,d,k,rfl⟩:=c;exact ⟨⟨a.os,a.tape,a.output,a.size,fun i g h=>a.block i g (fun e=>h (Option.some.inj e))⟩,by simp [setBlock]⟩
theorem MapF.store {t e:TypeId} (I:MapF P k z w b m f h) (u:Maps.Keyed P k) (C:P.underlying t=some (.map k e)) (E:m<maxLen) {l val:Value} {a:Lit} (g:keyOf P k l=some a) :
  ∃ w',(Instr.mapUpdate t (.map (some b)) l val).run P w=.ok () w'/\MapF P k z w' b (if h a then m else m+1) (updF f a val) (updF h a true)/\Only (fun i=>i=b) w w'/\w'.heap.size=w.heap.size:=by
 obtain ⟨H,o,s,A,p⟩:=I;obtain ⟨w',F,v,q⟩:=o.store u C E (d:=.held val) (ps:=[]) g rfl;have n:=u.key g;obtain ⟨B,D⟩:=Zjb q;refine ⟨w',F,⟨H.put a (.held val),?_,?_,fun x=>?_,fun x=>?_⟩,B,D⟩
 ·have c:=Maps.size_put (k:=a) (o.tidy u) (.held val:DataW Value);rw [s,p] at c;obtain ⟨es,j,y,J,G,r⟩:=v;refine ⟨es,j,y,J,?_,r⟩;have:Maps.size (H.put a (.held val))=es.size:=by rw [r];simp [Maps.size,length_sorted]
  rw [←c,this];exact Nat.le_refl _
 ·have c:=Maps.size_put (k:=a) (o.tidy u) (.held val:DataW Value);rw [s,p] at c;exact c
 ·by_cases e:x=a
  ·subst e;rw [Maps.atKey_put_same o.isMap n,ZbX]
  ·rw [Maps.atKey_put_other e,Za8 f val e,A]
 ·by_cases e:x=a
  ·subst e;rw [Maps.has_put_same o.isMap n,ZbX]
  ·rw [Maps.has_put_other e,Za8 h true e,p]
open Classical in
noncomputable def putW (P:Program) (t:TypeId) (m a val:Value) (W:World):World:=if b:∃ w',(Instr.mapUpdate t m a val).run P W=.ok () w' then b.choose else W
theorem MapF.put {t e:TypeId} (v:MapF P k z w b m f h) (x:Maps.Keyed P k) (n:P.underlying t=some (.map k e)) (u:m<maxLen) {a val:Value} {c:Lit} (d:keyOf P k a=some c) :
  (Instr.mapUpdate t (.map (some b)) a val).run P w=.ok () (putW P t (.map (some b)) a val w)/\MapF P k z (putW P t (.map (some b)) a val w) b (if h c then m else m+1) (updF f c val) (updF h c true)/\
   Only (fun i=>i=b) w (putW P t (.map (some b)) a val w)/\(putW P t (.map (some b)) a val w).heap.size=w.heap.size:=by
 obtain ⟨w',g,l,q,r⟩:=v.store x n u (val:=val) d;have j:∃ w',(Instr.mapUpdate t (.map (some b)) a val).run P w=.ok () w':=⟨w',g⟩
 have s:putW P t (.map (some b)) a val w=w':=by
  unfold putW;rw [dif_pos j];have p:=g.symm.trans j.choose_spec
  injection p with _ e
  exact e.symm
 rw [s];exact ⟨g,l,q,r⟩
def MapG (P:Program) (k:TypeId) (z:Value) (w:World) (b g m:Nat) (f:Lit->Value) (h:Lit->Bool) (l:Lit->Bool) (c:Nat):Prop:=
 ∃ d,w.ranges P k RH b g m d l c/\(∀ a,d.atKey a (.held z)=.held (f a))/\∀ a,Maps.has d a=h a
theorem MapF.range {t e:TypeId} (s:MapF P k z w b m f h) (u:Maps.Keyed P k) (n:P.underlying t=some (.map k e)) :
  ∃ w',(Instr.range t (.map (some b))).run P w=.ok (.pointer (some ⟨w.heap.size,0,none⟩)) w'/\MapG P k z w' b w.heap.size m f h h m/\Below w.heap.size w w'/\w'.heap.size=w.heap.size+1:=by
 obtain ⟨r,o,j,p,c⟩:=s;obtain ⟨w',q,d,a,g⟩:=o.range u n;have e:Maps.has r=h:=funext c;rw [e,j] at d;exact ⟨w',q,⟨r,d,p,c⟩,⟨a.os,a.tape,a.output,a.size,fun i l=>a.block i l (by simp)⟩,g⟩
theorem MapG.ne {a:Nat} {l:Lit->Bool} {c:Nat} (d:MapG P k z w b a m f h l c):a ≠ b:=let ⟨_,g,_⟩:=d;g.ne
theorem MapG.left {a:Nat} {l:Lit->Bool} {c:Nat} (d:MapG P k z w b a m f h l c):w.rangeLeft b a=c:=let ⟨_,g,_⟩:=d;g.left_eq
theorem MapG.keep {t:Nat} {l:Lit->Bool} {c:Nat} {S:Nat->Prop} {w':World} (y:MapG P k z w b t m f h l c) (i:Only S w w') (v:¬ S b) (x:¬ S t):MapG P k z w' b t m f h l c:=by
 obtain ⟨A,⟨es,d,a,g,s,p,B,n,u,j,rest⟩,q,r⟩:=y;exact ⟨A,⟨es,d,a,g,s,i.heap p v,B,n,u,i.heap j x,rest⟩,q,r⟩
theorem MapG.next {r:Nat} {l:Lit->Bool} {c:Nat} (K:MapG P k z w b r m f h l c) (L:Maps.Keyed P k) (ty:TypeId) :
  (c=0/\(∀ a,l a=false)/\(Instr.next (.pointer (some ⟨r,0,none⟩)) false ty).run P w=.ok (.tuple #[.bool false]) w)\/
  ∃ d a w' n,keyOf P k d=some a/\l a=true/\(Instr.next (.pointer (some ⟨r,0,none⟩)) false ty).run P w=.ok (.tuple #[.bool true,d,f a]) w'/\
   MapG P k z w' b r m f h (fun x=>l x && !x.sameKey a) n/\n<c/\Only (fun i=>i=r) w w'/\w'.heap.size=w.heap.size/\(Instr.entry (.pointer (some ⟨r,0,none⟩))).run P w'=.ok (.tuple #[d,f a]) w':=by
 obtain ⟨M,g,s,E⟩:=K;rcases g.next L ty with C|⟨d,v,a,N,w',n,q,B,A,u,p,F,y,j,D,t⟩
 ·exact Or.inl C
 ·have J:N=(.held v,[]):=(Option.some.inj A).symm;have I:v=f a:=by
   have:=u (.held z);rw [s,J] at this
   simpa using this.symm
  subst I;exact Or.inr ⟨d,a,w',n,q,B,p,⟨M,F,s,E⟩,y,⟨j.os,j.tape,j.output,j.size,fun i H G=>j.block i H (fun e=>G (Option.some.inj e))⟩,D,t⟩
end
theorem Yaa:type_of% @List.getElem?_eq_getElem:=@List.getElem?_eq_getElem
theorem Yab:type_of% @Below.refl:=@Below.refl
theorem Yac:type_of% @Nat.le_refl:=@Nat.le_refl
theorem Yad:type_of% @Only.ofBelow:=@Only.ofBelow
theorem Yae:type_of% @Option.some.inj:=@Option.some.inj
theorem Yaf:type_of% @List.mem_of_getElem?:=@List.mem_of_getElem?
theorem Yag:type_of% @List.getElem?_eq_some_iff:=@List.getElem?_eq_some_iff
theorem Yah:type_of% @beq_eq_false_iff_ne:=@beq_eq_false_iff_ne
theorem Yai:type_of% @Nat.zero_le:=@Nat.zero_le
theorem Yaj:type_of% @decide_eq_false:=@decide_eq_false
theorem Yak:type_of% @List.length_append:=@List.length_append
theorem Yal:type_of% @List.mem_cons_self:=@List.mem_cons_self
theorem Yam:type_of% @List.getD_eq_getElem?_getD:=@List.getD_eq_getElem?_getD
theorem Yan:type_of% @Only.refl:=@Only.refl
theorem Yao:type_of% @List.mem_append:=@List.mem_append
theorem Yap:type_of% @List.mem_cons_of_mem:=@List.mem_cons_of_mem
theorem Yaq:type_of% @Nat.le_trans:=@Nat.le_trans
theorem Yar:type_of% @Bool.and_eq_true:=@Bool.and_eq_true
theorem Yas:type_of% @if_neg:=@if_neg
theorem Yat:type_of% @decide_eq_true:=@decide_eq_true
theorem Yau:type_of% @List.getElem?_map:=@List.getElem?_map
theorem Yav:type_of% @List.mem_cons:=@List.mem_cons
theorem Yaw:type_of% @List.take_of_length_le:=@List.take_of_length_le
theorem Yax:type_of% @Bool.true_and:=@Bool.true_and
theorem Yay:type_of% @List.length_take:=@List.length_take
theorem Yaz:type_of% @List.length_map:=@List.length_map
theorem YaA:type_of% @List.mem_singleton:=@List.mem_singleton
theorem YaB:type_of% @Nat.lt_or_ge:=@Nat.lt_or_ge
theorem YaC:type_of% @if_pos:=@if_pos
theorem YaD:type_of% @Array.getElem?_setIfInBounds:=@Array.getElem?_setIfInBounds
theorem YaE:type_of% @List.all_eq_true:=@List.all_eq_true
theorem YaF:type_of% @Bool.false_and:=@Bool.false_and
theorem YaG:type_of% @Nat.mul_one:=@Nat.mul_one
theorem YaH:type_of% @List.getElem?_append_right:=@List.getElem?_append_right
theorem YaI:type_of% @List.length_cons:=@List.length_cons
theorem YaJ:type_of% @List.take_length:=@List.take_length
theorem YaK:type_of% @List.foldl_cons:=@List.foldl_cons
theorem YaL:type_of% @List.take_add_one:=@List.take_add_one
theorem YaM:type_of% @Option.isSome_iff_exists:=@Option.isSome_iff_exists
theorem YaN:type_of% @List.getElem?_eq_none:=@List.getElem?_eq_none
theorem YaO:type_of% @decide_eq_true_eq:=@decide_eq_true_eq
theorem YaP:type_of% @List.getElem?_append_left:=@List.getElem?_append_left
theorem YaQ:type_of% @List.any_eq_true:=@List.any_eq_true
theorem YaR:type_of% @Bool.and_assoc:=@Bool.and_assoc
theorem YaS:type_of% @Bool.false_or:=@Bool.false_or
theorem YaT:type_of% @List.any_eq_false:=@List.any_eq_false
theorem YaU:type_of% @Option.map_eq_some_iff:=@Option.map_eq_some_iff
theorem YaV:type_of% @List.findIdx?_eq_some_iff_getElem:=@List.findIdx?_eq_some_iff_getElem
theorem YaW:type_of% @List.append_assoc:=@List.append_assoc
theorem YaX:type_of% @Bool.or_eq_true:=@Bool.or_eq_true
theorem YaY:type_of% @List.length_eq_zero_iff:=@List.length_eq_zero_iff
theorem YaZ:type_of% @List.mem_append_right:=@List.mem_append_right
theorem Ya0:type_of% @List.mem_iff_getElem?:=@List.mem_iff_getElem?
theorem Ya1:type_of% @List.take_append_drop:=@List.take_append_drop
theorem Ya2:type_of% @List.append_nil:=@List.append_nil
theorem Ya3:type_of% @List.cons.injEq:=@List.cons.injEq
theorem Ya4:type_of% @List.map_append:=@List.map_append
theorem Ya5:type_of% @congrArg:=@congrArg
theorem Ya6:type_of% @List.mem_map:=@List.mem_map
theorem Ya7:type_of% @List.mem_append_left:=@List.mem_append_left
theorem Ya8:type_of% @List.foldl_append:=@List.foldl_append
theorem Ya9:type_of% @List.not_mem_nil:=@List.not_mem_nil
theorem Yba:type_of% @Option.some.injEq:=@Option.some.injEq
theorem Ybb:type_of% @List.findSome?_append:=@List.findSome?_append
theorem Ybc:type_of% @Nat.zero_add:=@Nat.zero_add
theorem Ybd:type_of% @Only.setCell:=@Only.setCell
theorem Ybe:type_of% @Nat.min_eq_left:=@Nat.min_eq_left
theorem Ybf:type_of% @beq_self_eq_true:=@beq_self_eq_true
theorem Ybg:type_of% @Bool.not_eq_true':=@Bool.not_eq_true'
theorem Ybh:type_of% @List.mem_of_mem_take:=@List.mem_of_mem_take
theorem Ybi:type_of% @Nat.lt_of_lt_of_le:=@Nat.lt_of_lt_of_le
theorem Ybj:type_of% @Array.length_toList:=@Array.length_toList
theorem Ybk:type_of% @Bool.eq_iff_iff:=@Bool.eq_iff_iff
theorem Ybl:type_of% @List.getElem?_range:=@List.getElem?_range
theorem Ybm:type_of% @List.nil_append:=@List.nil_append
theorem Ybn:type_of% @List.length_drop:=@List.length_drop
theorem Ybo:type_of% @Addr.add_mid:=@Addr.add_mid
theorem Ybp:type_of% @Only.alloc:=@Only.alloc
theorem Ybq:type_of% @List.set_cons_zero:=@List.set_cons_zero
theorem Ybr:type_of% @Only.drew:=@Only.drew
theorem Ybs:type_of% @Bool.or_eq_false_iff:=@Bool.or_eq_false_iff
theorem Ybt:type_of% @List.getElem?_set_ne:=@List.getElem?_set_ne
theorem Ybu:type_of% @Array.getElem?_eq_some_iff:=@Array.getElem?_eq_some_iff
theorem Ybv:type_of% @List.getElem?_set_self:=@List.getElem?_set_self
theorem Ybw:type_of% @Bool.not_or:=@Bool.not_or
theorem Ybx:type_of% @Option.none_or:=@Option.none_or
theorem Yby:type_of% @List.count_cons:=@List.count_cons
theorem Ybz:type_of% @List.length_replicate:=@List.length_replicate
theorem YbA:type_of% @List.set_cons_succ:=@List.set_cons_succ
theorem YbB:type_of% @List.mem_flatMap:=@List.mem_flatMap
theorem YbC:type_of% @List.take_append_of_le_length:=@List.take_append_of_le_length
theorem YbD:type_of% @List.getElem?_of_mem:=@List.getElem?_of_mem
theorem YbE:type_of% @List.findSome?_cons:=@List.findSome?_cons
theorem YbF:type_of% @Addr.mk.injEq:=@Addr.mk.injEq
theorem YbG:type_of% @List.findIdx?_cons:=@List.findIdx?_cons
theorem YbH:type_of% @List.getElem?_drop:=@List.getElem?_drop
theorem YbI:type_of% @List.getElem?_take:=@List.getElem?_take
theorem YbJ:type_of% @List.map_cons:=@List.map_cons
theorem YbK:type_of% @List.drop_eq_getElem_cons:=@List.drop_eq_getElem_cons
theorem YbL:type_of% @List.mem_range:=@List.mem_range
theorem YbM:type_of% @List.take_zero:=@List.take_zero
theorem YbN:type_of% @Below.mono:=@Below.mono
theorem YbO:type_of% @Nat.not_lt_zero:=@Nat.not_lt_zero
theorem YbP:type_of% @Nat.eq_zero_or_pos:=@Nat.eq_zero_or_pos
theorem YbQ:type_of% @List.contains_iff_mem:=@List.contains_iff_mem
theorem YbR:type_of% @List.range_succ:=@List.range_succ
theorem YbS:type_of% @Option.map_some:=@Option.map_some
theorem YbT:type_of% @List.setIfInBounds_toArray:=@List.setIfInBounds_toArray
theorem YbU:type_of% @List.findIdx_getElem:=@List.findIdx_getElem
theorem YbV:type_of% @Array.getElem?_eq_getElem:=@Array.getElem?_eq_getElem
theorem YbW:type_of% @List.findIdx?_eq_none_iff:=@List.findIdx?_eq_none_iff
theorem YbX:type_of% @List.map_map:=@List.map_map
theorem YbY:type_of% @Nat.add_zero:=@Nat.add_zero
theorem YbZ:type_of% @Bool.false_eq_true:=@Bool.false_eq_true
theorem Yb0:type_of% @List.getElem?_cons_succ:=@List.getElem?_cons_succ
theorem Yb1:type_of% @Bool.eq_false_iff:=@Bool.eq_false_iff
theorem Yb2:type_of% @List.all_eq_false:=@List.all_eq_false
theorem Yb3:type_of% @List.ext_getElem?:=@List.ext_getElem?
theorem Yb4:type_of% @List.flatMap_cons:=@List.flatMap_cons
theorem Yb5:type_of% @List.length_range:=@List.length_range
theorem Yb6:type_of% @List.nodup_append:=@List.nodup_append
theorem Yb7:type_of% @List.nodup_nil:=@List.nodup_nil
theorem Yb8:type_of% @Array.getElem?_toList:=@Array.getElem?_toList
theorem Yb9:type_of% @List.length_singleton:=@List.length_singleton
theorem Yca:type_of% @Nat.sub_self:=@Nat.sub_self
theorem Ycb:type_of% @Option.or_eq_none_iff:=@Option.or_eq_none_iff
theorem Ycc:type_of% @List.getElem_mem:=@List.getElem_mem
theorem Ycd:type_of% @List.all_cons:=@List.all_cons
theorem Yce:type_of% @List.flatMap_append:=@List.flatMap_append
theorem Ycf:type_of% @List.length_set:=@List.length_set
theorem Ycg:type_of% @List.map_congr_left:=@List.map_congr_left
theorem Ych:type_of% @List.findSome?_eq_some_iff:=@List.findSome?_eq_some_iff
theorem Yci:type_of% @Array.ext_getElem?:=@Array.ext_getElem?
theorem Ycj:type_of% @List.find?_eq_none:=@List.find?_eq_none
theorem Yck:type_of% @List.map_replicate:=@List.map_replicate
theorem Ycl:type_of% @Bool.and_false:=@Bool.and_false
theorem Ycm:type_of% @List.mem_of_find?_eq_some:=@List.mem_of_find?_eq_some
theorem Ycn:type_of% @List.getElem?_replicate:=@List.getElem?_replicate
theorem Yco:type_of% @Bool.true_or:=@Bool.true_or
theorem Ycp:type_of% @List.all_append:=@List.all_append
theorem Ycq:type_of% @List.find?_some:=@List.find?_some
theorem Ycr:type_of% @List.map_nil:=@List.map_nil
theorem Ycs:type_of% @List.nodup_cons:=@List.nodup_cons
theorem Yct:type_of% @List.set_append_right:=@List.set_append_right
theorem Ycu:type_of% @Nat.le_of_eq:=@Nat.le_of_eq
theorem Ycv:type_of% @Nat.min_le_left:=@Nat.min_le_left
theorem Ycw:type_of% @List.findIdx?_append:=@List.findIdx?_append
theorem Ycx:type_of% @Nat.mul_le_mul_right:=@Nat.mul_le_mul_right
theorem Ycy:type_of% @List.take_take:=@List.take_take
