/- laws -/
import Derived.WalkKit
import Derived.WalkMore
import Derived.Lib.Hide
import Derived.Lib.Bytes
import Derived.Lib.VarintMem
import Derived.Lib.AppendStr
import Derived.OneCell
import Derived.Deep.Draws
import Derived.Deep.MidRow
import Derived.Maps.OwnSet
import Derived.Maps.RangeWalk
set_option maxRecDepth 100000
set_option maxHeartbeats 16000000
namespace Go.Proofs.YtggcdinoflchjaaGreatDoor
open Go.RowKit
theorem _root_.Go.RowKit.Hid.o {p : Prop} (h : Go.RowKit.Hid p) : p := h.out
theorem Hd {p:Prop} (h:p):Hid p:=Lib.hid h
theorem Zhg {k:IntKind} {a b:Int} (h:a=b):Ending.returned (.int k a)=.returned (.int k b):=by rw [h]
def S (l:List UInt8):ByteArray:=⟨l.toArray⟩
theorem ZaB (l:List UInt8):(S l).size=l.length:=by simp [S,ByteArray.size]
theorem ZjH (l:List UInt8):(S l).data.toList=l:=by simp [S]
theorem Zcx (a b:List UInt8):S a++S b=S (a++b):=by
 apply ByteArray.ext
 simp [S]
theorem Zae (l:List UInt8):(S l).toList=l:=by rw [Go.Lib.toList_data];exact ZjH l
theorem Zoz (l:List UInt8) (i:Nat):(S l).get! i=l.getD i 0:=by
 unfold ByteArray.get! S;simp [List.getD]
 rfl
theorem Zff (l:List UInt8) (k:Nat):(S l).extract k (S l).size=S (l.drop k):=by
 apply ByteArray.ext
 apply Array.ext'
 simp [S,ByteArray.size]
 apply List.take_of_length_le
 simp
theorem Zga (l:List UInt8) (k:Nat):(S l).extract 0 k=S (l.take k):=by
 apply ByteArray.ext
 apply Array.ext'
 simp [S]
theorem ZlV (s:ByteArray):S s.data.toList=s:=by
 apply ByteArray.ext
 simp [S]
theorem ZqH (s:ByteArray) (h:s.size<=maxLen):s.data.toList.length<=9223372036854775807:=by
 have e:s.data.toList.length=s.size:=Array.length_toList;rw [e];exact h
theorem S_at (l:List UInt8) (k:Nat) (hk:k<l.length) (h:k<(S l).size):((S l)[k]'h)=l.getD k 0:=by
 simp [S,List.getD,List.getElem?_eq_getElem hk]
 rfl

structure Only (S:Nat->Prop) (w w':World):Prop where
 os:w'.os=w.os
 tape:w'.tape=w.tape
 output:w'.output=w.output
 size:w.heap.size<=w'.heap.size
 block:∀ k,k<w.heap.size->¬ S k->w'.heap[k]? = w.heap[k]?

theorem Only.refl (S:Nat->Prop) (w:World):Only S w w:=⟨rfl,rfl,rfl,Nat.le_refl _,fun _ _ _=>rfl⟩
theorem Only.trans {S:Nat->Prop} {a b c:World} (h:Only S a b) (k:Only S b c):Only S a c:=
 ⟨k.os.trans h.os,k.tape.trans h.tape,k.output.trans h.output,Nat.le_trans h.size k.size,fun i hi hn=>(k.block i (Nat.lt_of_lt_of_le hi h.size) hn).trans (h.block i hi hn)⟩
theorem Only.then {S T:Nat->Prop} {a b c:World} (h:Only S a b) (k:Only T b c) (hT:∀ i,i<a.heap.size->T i->S i):Only S a c:=
 ⟨k.os.trans h.os,k.tape.trans h.tape,k.output.trans h.output,Nat.le_trans h.size k.size,fun i hi hn=>(k.block i (Nat.lt_of_lt_of_le hi h.size) (fun t=>hn (hT i hi t))).trans (h.block i hi hn)⟩
theorem Only.mono {S T:Nat->Prop} {a b:World} (h:Only S a b) (hT:∀ i,i<a.heap.size->S i->T i):Only T a b:=
 ⟨h.os,h.tape,h.output,h.size,fun i hi hn=>h.block i hi (fun s=>hn (hT i hi s))⟩
theorem Only.drew {S:Nat->Prop} {a w:World} (h:Only S a w):Only S a w.drew:=⟨h.os,h.tape,h.output,h.size,h.block⟩
theorem Only.alloc {S:Nat->Prop} {a w:World} (h:Only S a w) (o:Obj):Only S a (w.alloc o):=
 h.trans ⟨rfl,rfl,rfl,by simp,fun k hk _=>Below.heap_alloc _ _ _ hk⟩
theorem Only.setCell {S:Nat->Prop} {a w:World} (h:Only S a w) {p:Addr} (hp:S p.block) (u:Value):Only S a (w.setCell p u):=
 h.trans ⟨rfl,rfl,rfl,by simp [World.setCell],fun k _ hn=>Below.heap_setCell _ _ _ _ (fun e=>hn (e ▸ hp))⟩
theorem Only.grown {S:Nat->Prop} {a w w':World} {row:Option Nat} (h:Only S a w) (hg:w.grownBy w' row) (hr:∀ k,row=some k->S k):Only S a w':=
 h.trans ⟨hg.os,hg.tape,hg.output,hg.size,fun k hk hn=>hg.block k hk (fun e=>hn (hr k e.symm))⟩
theorem Only.ofBelow {S:Nat->Prop} {w w':World} (h:Below w.heap.size w w'):Only S w w':=⟨h.os,h.tape,h.output,h.size,fun k hk _=>h.block k hk⟩
theorem Only.below {S:Nat->Prop} {w w':World} {B:Nat} (h:Only S w w') (hB:B<=w.heap.size) (hS:∀ i,S i->B<=i):Below B w w':=
 ⟨h.os,h.tape,h.output,h.size,fun k hk=>h.block k (by omega) (fun s=>by have:=hS k s;omega)⟩
theorem Only.heap {S:Nat->Prop} {w w':World} {b:Nat} {o:Obj} (h:Only S w w') (hb:w.heap[b]? = some o) (hn:¬ S b):w'.heap[b]? = some o:=
 (h.block b (lt_of_block hb) hn).trans hb
theorem Only.cell {S:Nat->Prop} {w w':World} (h:Only S w w') {a:Addr} {v:Value} (hc:w.cell? a=some v) (hn:¬ S a.block):w'.cell? a=some v:=
 (World.cell?_of_block (h.block a.block (World.block_lt_of_cell? w a hc) hn)).trans hc
theorem Only.row {S:Nat->Prop} {w w':World} {B:Nat} {e:TypeId} {size:Nat} {v:Value} {n:Nat} {xs:List Value} (h:Only S w w') (ho:w.ownsRow B e size v n xs) (hn:∀ g,v.ownBlock=some g->¬ S g):w'.ownsRow B e size v n xs:=by
 refine ⟨ho.1,?_⟩;rcases ho.2 with hv|⟨g,cap,cur,rfl,hb,hgg,rest⟩
 ·exact .inl hv
 ·refine .inr ⟨g,cap,cur,rfl,hb,?_,rest⟩;exact h.heap hgg (hn g rfl)
theorem ZdW {w:World} {B C:Nat} {e:TypeId} {size:Nat} {v:Value} {n:Nat} {xs:List Value} (ho:w.ownsRow B e size v n xs) (hC:C<=B):w.ownsRow C e size v n xs:=by
 refine ⟨ho.1,?_⟩;rcases ho.2 with hv|⟨g,cap,cur,rfl,hb,rest⟩
 ·exact .inl hv
 ·exact .inr ⟨g,cap,cur,rfl,by omega,rest⟩

structure Grew (w:World) (v:Value) (w':World) (v':Value):Prop where
 only:Only (fun k=>v.ownBlock=some k) w w'
 came:v'.ownBlock=v.ownBlock\/∀ g,v'.ownBlock=some g->w.heap.size<=g
theorem Grew.refl (w:World) (v:Value):Grew w v w v:=⟨Only.refl _ _,.inl rfl⟩
theorem Grew.into {w w':World} {v v':Value} (h:Grew w v w' v'):∀ k,k<w.heap.size->v'.ownBlock=some k->v.ownBlock=some k:=by
 intro k hk hv;rcases h.came with e|e
 ·rw [←e];exact hv
 ·have:=e k hv;omega
theorem Grew.trans {a b c:World} {u v x:Value} (h:Grew a u b v) (k:Grew b v c x):Grew a u c x:=by
 refine ⟨h.only.then k.only h.into,?_⟩;rcases k.came with e|e
 ·rw [e];exact h.came
 ·exact .inr fun g hg=>Nat.le_trans h.only.size (e g hg)
section
variable {P:Program} (w:World)
theorem Zbr (t ty e:TypeId) (i:TypeInfo) (z:Value) (size bytes:Nat) (ht:P.underlying t=some (.slice e)) (hi:P.info? e=some i) (hz:i.zero=some z)
  (hsize:i.size=size) (hby:i.bytes=bytes) (hzs:z.cells.size=size) (hsz:0<size)
  (v:Value) (n:Nat) (xs:List Value) (hown:w.ownsRow 0 e size v n xs)
  (a:Addr) (m c:Nat) (news:List Value) (hl:news.length=m * size) (hnews:∀ j u,news[j]? = some u->w.cell? (a.add j)=some u) (h1:∀ u ∈ news,u.oneCell'=true)
  (h63:n+m<=maxLen) (hbytes:(n+m) * bytes<=140737488355328) :
  ∃ v' w',(Builtin.append_ #[t,t] ty #[v,.slice (some a) m c]).run P w=.ok v' w'/\w'.ownsRow 0 e size v' (n+m) (xs++news)/\Grew w v w' v':=by
 obtain ⟨v',w',hr,h2,h3,h4⟩:=run_append_own (P:=P) w 0 t ty e i z size bytes ht hi hz hsize hby hzs hsz v n xs hown a m c news hl hnews h1 h63 hbytes (Nat.zero_le _);refine ⟨v',w',hr,h2,⟨(Only.refl _ _).grown h3 (fun k hk=>hk),?_⟩⟩;have hlen:n+m<=9223372036854775807:=by simp only [maxLen] at h63;omega
 subst hsize;subst hby
 rcases hown.2 with ⟨rfl,rfl⟩|⟨g,cap,cur,rfl,_,hg,hnc,_,hcs,htake⟩
 ·by_cases hm:m=0
  ·exact .inl (by rw [h4.2 ⟨rfl,hm⟩])
  ·have hr':=run_append_nil (P:=P) w t ty e i z ht hi hz a m c news hl hnews (by omega) (by omega) (by have hb:=hbytes;simp only [Nat.zero_add] at hb;omega);rw [hr] at hr';cases hr'
   exact .inr fun g hg=>by simp [Value.ownBlock] at hg;omega
 ·by_cases hroom:n+m<=cap
  ·have hfit:n * i.size+news.length<=cur.size:=by rw [hl,hcs,←Nat.add_mul];exact Nat.mul_le_mul_right _ hroom
   have hr':=run_append_room (P:=P) w t ty e i ht hi g n cap cur hg a m c news hl hnews h1 hroom hfit;rw [hr] at hr';cases hr'
   exact .inl rfl
  ·have hr':=run_append_grow (P:=P) w t ty e i z ht hi hz ⟨g,0,none⟩ n cap xs hown.1 (hown.cells (g:=g) rfl) a m c news hl hnews (by omega) (by omega) (growslice_fits (by omega) hbytes);rw [hr] at hr';cases hr'
   exact .inr fun g hg=>by simp [Value.ownBlock] at hg;omega

theorem Zbn {ops:Array Oper} {rest:List Oper} {o:Oper} {a:Act} {Q:Exit->Act->World->Prop} (hgd:o.guard=none) (s x:Operand) (t:TypeId)
  (ho:o.op=.call { callee:=.builtin .append,args:=#[s,x],argTypes:=#[t,t] })
  (e:TypeId) (i:TypeInfo) (z:Value) (size bytes:Nat) (ht:P.underlying t=some (.slice e)) (hi:P.info? e=some i) (hz:i.zero=some z)
  (hsize:i.size=size) (hby:i.bytes=bytes) (hzs:z.cells.size=size) (hsz:0<size)
  (v:Value) (n:Nat) (xs:List Value) (hs:a.eval s=v) (hown:w.ownsRow 0 e size v n xs)
  (ad:Addr) (m c:Nat) (news:List Value) (hx:a.eval x=.slice (some ad) m c) (hl:news.length=m * size) (hnews:∀ j u,news[j]? = some u->w.cell? (ad.add j)=some u) (h1:∀ u ∈ news,u.oneCell'=true)
  (h63:n+m<=maxLen) (hbytes:(n+m) * bytes<=140737488355328)
  (h:∀ v' w',w'.ownsRow 0 e size v' (n+m) (xs++news)->Grew w v w' v'->wpList P ops Q rest (a.put o.dst v') w'):wpList P ops Q (o :: rest) a w:=by
 obtain ⟨v',w',hr,h2,h3⟩:=Zbr (P:=P) w t o.type e i z size bytes ht hi hz hsize hby hzs hsz v n xs hown ad m c news hl hnews h1 h63 hbytes;refine wpList_plain hgd fun K hK=>?_
 unfold Oper.wp;simp only [execOp,ho,resolve,invoke,builtin,Sem.run_bind,Sem.run_pure,Result.andThen_ok,List.map_toArray,List.map_cons,List.map_nil,hs,hx,hr];exact hK _ _ (h v' w' h2 h3)
end

theorem Zck {w:World} {b o:Nat} {u:Value} {cs:Array Value} {t:TypeId} {fz:Nat × Nat} (h:w.heap[b]? = some (.cells cs t fz)):(w.setCell ⟨b,o,none⟩ u).heap[b]? = some (.cells (cs.setIfInBounds o u) t fz):=by
 have hlt:=lt_of_block h;have h':w.heap[b]=.cells cs t fz:=by simpa [Array.getElem?_eq_getElem hlt] using h
 show (w.heap.modify b _)[b]? = _
 rw [Array.getElem?_eq_getElem (by simpa using hlt),Array.getElem_modify_self,h'];rfl
abbrev Zaq (α:Type):=(Nat->Prop)->World->α->Value->Prop
structure Stays {α:Type} (R:Zaq α):Prop where
 keep:∀ {A S:Nat->Prop} {w w':World} {x:α} {v:Value},R A w x v->Only S w w'->(∀ k,A k->¬ S k)->R A w' x v
 mono:∀ {A A':Nat->Prop} {w:World} {x:α} {v:Value},R A w x v->(∀ k,k<w.heap.size->A k->A' k)->R A' w x v
def ZpT (A:Nat->Prop) (w:World) (b n cap:Nat):Prop:=A b/\b<w.heap.size/\n<=cap/\cap<=9223372036854775807
def Src {α:Type} (n:Nat) (R:Zaq α) (A:Nat->Prop) (w:World) (sv:Value) (l:List α):Prop:=
 (∃ ao cap,sv=.slice ao 0 cap/\l=[])\/
 ∃ b o cap,sv=.slice (some ⟨b,o,none⟩) l.length cap/\ZpT A w b l.length cap/\
  ∀ k x,l[k]? = some x->∃ v,R A w x v/\v.cells.size=n/\∀ j u,v.cells[j]? = some u->w.cell? ⟨b,o+k * n+j,none⟩=some u
theorem Src.shape {α:Type} {n:Nat} {R:Zaq α} {A:Nat->Prop} {w:World} {sv:Value} {l:List α} (h:Src n R A w sv l):∃ ao cap,sv=.slice ao l.length cap:=by
 rcases h with ⟨ao,cap,rfl,rfl⟩|⟨b,o,cap,rfl,_⟩
 ·exact ⟨ao,cap,rfl⟩
 ·exact ⟨_,cap,rfl⟩
theorem Src.nil {α:Type} {n:Nat} {R:Zaq α} {A:Nat->Prop} {w:World}:Src n R A w (.slice none 0 0) []:=.inl ⟨_,_,rfl,rfl⟩
theorem Stays.src {α:Type} {n:Nat} {R:Zaq α} (hR:Stays R):∀ {A S:Nat->Prop} {w w':World} {sv:Value} {l:List α},Src n R A w sv l->Only S w w'->(∀ k,A k->¬ S k)->Src n R A w' sv l:=by
 intro A S w w' sv l h ho hA;rcases h with h|⟨b,o,cap,hsv,⟨hb,hlt,hcap⟩,hc⟩
 ·exact .inl h
 ·refine .inr ⟨b,o,cap,hsv,⟨hb,Nat.lt_of_lt_of_le hlt ho.size,hcap⟩,fun k x hx=>?_⟩;obtain ⟨v,h1,h2,h3⟩:=hc k x hx;exact ⟨v,hR.keep h1 ho hA,h2,fun j u hj=>ho.cell (h3 j u hj) (hA b hb)⟩
theorem Stays.srcMono {α:Type} {n:Nat} {R:Zaq α} (hR:Stays R):∀ {A A':Nat->Prop} {w:World} {sv:Value} {l:List α},Src n R A w sv l->(∀ k,k<w.heap.size->A k->A' k)->Src n R A' w sv l:=by
 intro A A' w sv l h hA;rcases h with h|⟨b,o,cap,hsv,⟨hb,hlt,hcap⟩,hc⟩
 ·exact .inl h
 ·refine .inr ⟨b,o,cap,hsv,⟨hA b hlt hb,hlt,hcap⟩,fun k x hx=>?_⟩;obtain ⟨v,h1,h2,h3⟩:=hc k x hx;exact ⟨v,hR.mono h1 hA,h2,h3⟩
theorem Stays.below {α:Type} {n:Nat} {R:Zaq α} (hR:Stays R) {A:Nat->Prop} {w w':World} {sv:Value} {l:List α} (h:Src n R A w sv l) (hb:Below w.heap.size w w'):Src n R A w' sv l:=
 hR.src h (Only.ofBelow (S:=fun _=>False) hb) (fun _ _=>id)
abbrev Anyw:Nat->Prop:=fun _=>True
theorem Stays.any {α:Type} {n:Nat} {R:Zaq α} (hR:Stays R) {A:Nat->Prop} {w:World} {sv:Value} {l:List α} (h:Src n R A w sv l):Src n R Anyw w sv l:=hR.srcMono h (fun _ _ _=>trivial)
theorem Src.head {α:Type} {n:Nat} {R:Zaq α} {A:Nat->Prop} {w:World} {b o c:Nat} {l:List α} (hq:ZpT A w b l.length c)
  (h:∀ k x,l[k]? = some x->∃ v,R A w x v/\v.cells.size=n/\∀ j u,v.cells[j]? = some u->w.cell? ⟨b,o+k * n+j,none⟩=some u) (k:Nat) (hk:k<=l.length):Src n R A w (.slice (some ⟨b,o,none⟩) k c) (l.take k):=by
 refine .inr ⟨b,o,c,by rw [List.length_take,Nat.min_eq_left hk],⟨hq.1,hq.2.1,by rw [List.length_take];have:=hq.2.2.1;omega,hq.2.2.2⟩,fun i x hx=>?_⟩;refine h i x ?_;rw [List.getElem?_take] at hx;split at hx
 ·exact hx
 ·cases hx
def Flat {α:Type} (f:α->Value):Zaq α:=fun _ _ x v=>v=f x
theorem Flat.stays {α:Type} (f:α->Value):Stays (Flat f):=⟨fun h _ _=>h,fun h _=>h⟩
def ZaQ (vs:List Value):List Value:=vs.flatMap fun v=>v.cells.toList
theorem ZiJ (vs:List Value) (v:Value):ZaQ (vs++[v])=ZaQ vs++v.cells.toList:=by unfold ZaQ;rw [List.flatMap_append];simp
theorem ZcD {n:Nat}:∀ (vs:List Value),(∀ v ∈ vs,v.cells.size=n)->(ZaQ vs).length=vs.length * n
 | [],_=>by simp [ZaQ]
 | v :: vs,h=>by
  have ih:=ZcD vs (fun u hu=>h u (List.mem_cons_of_mem _ hu));have h0:=h v List.mem_cons_self;unfold ZaQ at ih ⊢;rw [List.flatMap_cons,List.length_append,ih,Array.length_toList,h0,List.length_cons,Nat.succ_mul];omega
theorem ZcN {n:Nat}:∀ (vs:List Value) (k j:Nat) (v:Value),(∀ v ∈ vs,v.cells.size=n)->vs[k]? = some v->j<n->(ZaQ vs)[k * n+j]? = v.cells[j]?
 | [],k,j,v,_,h,_=>by simp at h
 | x :: vs,0,j,v,hn,h,hj=>by
  have h0:=hn x List.mem_cons_self;simp at h
  subst h;unfold ZaQ;rw [List.flatMap_cons,Nat.zero_mul,Nat.zero_add,List.getElem?_append_left (by rw [Array.length_toList];omega),Array.getElem?_toList]
 | x :: vs,k+1,j,v,hn,h,hj=>by
  have h0:=hn x List.mem_cons_self;have ih:=ZcN vs k j v (fun u hu=>hn u (List.mem_cons_of_mem _ hu)) (by simpa using h) hj;unfold ZaQ at ih ⊢;rw [List.flatMap_cons,List.getElem?_append_right (by rw [Array.length_toList,h0,Nat.succ_mul];omega),Array.length_toList,h0,Nat.succ_mul,show k * n+n+j - n=k * n+j from by omega];exact ih
theorem Zc4 {v:Value} {n j:Nat} {u:Value} (hs:v.cells.size=n) (h:v.cells[j]? = some u):j<n:=by
 rcases Nat.lt_or_ge j n with h1|h1
 ·exact h1
 ·rw [Array.getElem?_eq_none (by omega)] at h;cases h
structure TRow {α:Type} (n:Nat) (t:TypeId) (R:Zaq α) (lo:Nat) (w:World) (vs:Value) (m:List α) (us:List Value):Prop where
 row:w.ownsRow 0 t n vs m.length (ZaQ us)
 own:∀ g,vs.ownBlock=some g->lo<=g
 len:us.length=m.length
 size:∀ u ∈ us,u.cells.size=n
 each:∀ (k:Nat) (x:α),m[k]? = some x->∃ u:Value,us[k]? = some u/\R (fun i:Nat=>lo<=i/\vs.ownBlock ≠ some i) w x u
theorem TRow.nil {α:Type} {n:Nat} {t:TypeId} {R:Zaq α} (lo:Nat) (w:World):TRow n t R lo w (.slice none 0 0) [] []:=
 ⟨World.ownsRow_nil _ _ _ _,fun g hg=>by simp [Value.ownBlock] at hg,rfl,fun u hu=>by simp at hu,fun k x hx=>by simp at hx⟩
theorem TRow.shape {α:Type} {n:Nat} {t:TypeId} {R:Zaq α} {lo:Nat} {w:World} {vs:Value} {m:List α} {us:List Value} (h:TRow n t R lo w vs m us):∃ ao c,vs=.slice ao m.length c:=by
 rcases h.row.2 with ⟨rfl,h0⟩|⟨g,cap,cur,rfl,_⟩
 ·exact ⟨_,_,by rw [h0]⟩
 ·exact ⟨_,_,rfl⟩
theorem TRow.lt {α:Type} {n:Nat} {t:TypeId} {R:Zaq α} {lo:Nat} {w:World} {vs:Value} {m:List α} {us:List Value} (h:TRow n t R lo w vs m us):∀ g,vs.ownBlock=some g->g<w.heap.size:=by
 intro g hg;rcases h.row.2 with ⟨rfl,h0⟩|⟨g',cap,cur,rfl,_,hgg,_⟩
 ·simp [Value.ownBlock] at hg
 ·simp [Value.ownBlock] at hg
  subst hg;exact lt_of_block hgg
theorem TRow.past {α:Type} {n:Nat} {t:TypeId} {R:Zaq α} (hR:Stays R) {lo:Nat} {w w':World} {vs:Value} {m:List α} {us:List Value} {S:Nat->Prop} (h:TRow n t R lo w vs m us) (ho:Only S w w') (hS:∀ k,lo<=k->¬ S k):TRow n t R lo w' vs m us:=by
 refine ⟨ho.row h.row (fun g hg=>hS g (h.own g hg)),h.own,h.len,h.size,fun k x hx=>?_⟩;obtain ⟨u,h1,h2⟩:=h.each k x hx;exact ⟨u,h1,hR.keep h2 ho (fun i hi=>hS i hi.1)⟩
theorem TRow.below {α:Type} {n:Nat} {t:TypeId} {R:Zaq α} (hR:Stays R) {lo:Nat} {w w':World} {vs:Value} {m:List α} {us:List Value} (h:TRow n t R lo w vs m us) (hb:Below w.heap.size w w'):TRow n t R lo w' vs m us:=
 h.past hR (Only.ofBelow (S:=fun _=>False) hb) (fun _ _=>id)
theorem TRow.snoc {α:Type} {n:Nat} {t:TypeId} {R:Zaq α} (hR:Stays R) {lo:Nat} {w w':World} {vs v':Value} {m:List α} {us:List Value} {x:α} {u:Value} (h:TRow n t R lo w vs m us) (hg:Grew w vs w' v')
  (hlo:lo<=w.heap.size) (hu:u.cells.size=n) (hx:R (fun i=>lo<=i/\vs.ownBlock ≠ some i) w x u) (hown:w'.ownsRow 0 t n v' (m.length+1) (ZaQ us++u.cells.toList)):TRow n t R lo w' v' (m++[x]) (us++[u]):=by
 have hA:∀ k,k<w.heap.size->(lo<=k/\vs.ownBlock ≠ some k)->(lo<=k/\v'.ownBlock ≠ some k):=fun k hk ⟨h1,h2⟩=>⟨h1,fun e=>h2 (hg.into k hk e)⟩
 have tr:∀ y q,R (fun i=>lo<=i/\vs.ownBlock ≠ some i) w y q->R (fun i=>lo<=i/\v'.ownBlock ≠ some i) w' y q:=fun y q hq=>by
  have h1:=hR.mono (A':=fun i=>(lo<=i/\v'.ownBlock ≠ some i)/\vs.ownBlock ≠ some i) hq (fun k hk hk2=>⟨hA k hk hk2,hk2.2⟩);have h2:=hR.keep h1 hg.only (fun k hk=>hk.2);exact hR.mono h2 (fun k _ hk=>hk.1)
 refine ⟨by rw [List.length_append,ZiJ];exact hown,fun g hgo=>?_,by simp [h.len],fun q hq=>?_,fun k y hy=>?_⟩
 ·rcases hg.came with e|e
  ·exact h.own g (e ▸ hgo)
  ·exact Nat.le_trans hlo (e g hgo)
 ·rcases List.mem_append.1 hq with hq|hq
  ·exact h.size q hq
  ·rw [List.mem_singleton.1 hq];exact hu
 ·rcases Nat.lt_or_ge k m.length with hk|hk
  ·rw [List.getElem?_append_left hk] at hy;obtain ⟨q,h1,h2⟩:=h.each k y hy;exact ⟨q,by rw [List.getElem?_append_left (by rw [h.len];exact hk)];exact h1,tr y q h2⟩
  ·rw [List.getElem?_append_right hk] at hy;have hk0:k - m.length=0:=by
    rcases Nat.eq_zero_or_pos (k - m.length) with h0|h0
    ·exact h0
    ·rw [List.getElem?_eq_none (by simp;omega)] at hy;cases hy
   rw [hk0] at hy;simp at hy
   subst hy;exact ⟨u,by rw [List.getElem?_append_right (by rw [h.len];exact hk),h.len,hk0];rfl,tr x u hx⟩
theorem TRow.src {α:Type} {n:Nat} {t:TypeId} {R:Zaq α} (hR:Stays R) {lo:Nat} {w:World} {vs:Value} {m:List α} {us:List Value} (h:TRow n t R lo w vs m us):Src n R (fun k=>lo<=k) w vs m:=by
 rcases h.row.2 with ⟨rfl,h0⟩|⟨g,cap,cur,rfl,_,hgg,hnc,hcm,_⟩
 ·exact .inl ⟨_,_,rfl,List.length_eq_zero_iff.1 h0⟩
 ·refine .inr ⟨g,0,cap,rfl,⟨h.own g rfl,lt_of_block hgg,hnc,hcm⟩,fun k x hx=>?_⟩;obtain ⟨u,h1,h2⟩:=h.each k x hx;have hsz:=h.size u (List.mem_of_getElem? h1);refine ⟨u,hR.mono h2 (fun i _ hi=>hi.1),hsz,fun j q hq=>?_⟩;have hj:=Zc4 hsz hq;have hc:=h.row.cells (g:=g) rfl (k * n+j) q (by rw [ZcN us k j u h.size h1 hj];exact hq);rw [Addr.add_mid] at hc;rw [Nat.add_assoc];exact hc
theorem Src.cells {α:Type} {n:Nat} {R:Zaq α} {A:Nat->Prop} {w:World} {b o:Nat} {l:List α} (m:List Value) (hv:∀ (k:Nat) v,m[k]? = some v->∃ x,l[k]? = some x/\R A w x v/\v.cells.size=n/\∀ (j:Nat) u,v.cells[j]? = some u->w.cell? ⟨b,o+k * n+j,none⟩=some u) (hn:0<n) :
  ∀ j u,(ZaQ m)[j]? = some u->w.cell? ((⟨b,o,none⟩:Addr).add j)=some u:=by
 intro j u hj;have hsz:∀ v ∈ m,v.cells.size=n:=fun v hv'=>by
  obtain ⟨k,hk,rfl⟩:=List.getElem_of_mem hv';obtain ⟨x,_,_,h3,_⟩:=hv k m[k] (List.getElem?_eq_getElem hk);exact h3
 have hjl:j<m.length * n:=by
  rcases Nat.lt_or_ge j (m.length * n) with h|h
  ·exact h
  ·rw [List.getElem?_eq_none (by rw [ZcD m hsz];exact h)] at hj;cases hj
 have hk:j / n<m.length:=by
  rw [Nat.div_lt_iff_lt_mul hn];exact hjl
 have hx:m[j / n]? = some m[j / n]:=List.getElem?_eq_getElem hk;obtain ⟨x,_,_,h3,h4⟩:=hv _ _ hx;have hdm:=Nat.div_add_mod j n;have hml:=Nat.mod_lt j hn;have he:j=j / n * n+j % n:=by rw [Nat.mul_comm];omega
 rw [he,ZcN m (j / n) (j % n) _ hsz hx hml] at hj;have:=h4 _ _ hj;rw [Addr.add_mid,he,←Nat.add_assoc];exact this
theorem Src.vals {α:Type} {n:Nat} {R:Zaq α} {A:Nat->Prop} {w:World} {b o:Nat} {l:List α}
  (h:∀ k x,l[k]? = some x->∃ v,R A w x v/\v.cells.size=n/\∀ j u,v.cells[j]? = some u->w.cell? ⟨b,o+k * n+j,none⟩=some u) :
  ∃ m:List Value,m.length=l.length/\∀ k v,m[k]? = some v->∃ x,l[k]? = some x/\R A w x v/\v.cells.size=n/\∀ j u,v.cells[j]? = some u->w.cell? ⟨b,o+k * n+j,none⟩=some u:=by
 have hex:∀ k:Fin l.length,∃ v,R A w l[k] v/\v.cells.size=n/\∀ j u,v.cells[j]? = some u->w.cell? ⟨b,o+k.val * n+j,none⟩=some u:=fun k=>h k.val l[k] (List.getElem?_eq_getElem k.isLt)
 refine ⟨List.ofFn fun k=>Classical.choose (hex k),by simp,fun k v hk=>?_⟩;have hkl:k<l.length:=by
  rcases Nat.lt_or_ge k l.length with h1|h1
  ·exact h1
  ·rw [List.getElem?_eq_none (by simpa using h1)] at hk;cases hk
 rw [List.getElem?_ofFn,dif_pos hkl] at hk;have:=Classical.choose_spec (hex ⟨k,hkl⟩);rw [Option.some.inj hk] at this;exact ⟨l[k],List.getElem?_eq_getElem hkl,this.1,this.2.1,this.2.2⟩
end Go.Proofs.YtggcdinoflchjaaGreatDoor
namespace Go.Proofs.YtggcdinoflchjaaGreatDoor
open Go.RowKit Go.MapKept Go.ChangeMaps
abbrev RH:Value->Option (DataW Value × List MemPlace):=fun v=>some (.held v,[])
def MapF (P:Program) (k:TypeId) (z:Value) (w:World) (b m:Nat) (f:Lit->Value) (h:Lit->Bool):Prop:=
 ∃ D,w.ownsMap P k RH b m D/\Maps.size D=m/\(∀ kl,D.atKey kl (.held z)=.held (f kl))/\∀ kl,Maps.has D kl=h kl
open Classical in
noncomputable def updF {α:Type} (f:Lit->α) (k:Lit) (v:α):Lit->α:=fun x=>if x=k then v else f x
theorem Zcc {α:Type} (f:Lit->α) (k:Lit) (v:α):updF f k v k=v:=by simp [updF]
theorem Zbj {α:Type} (f:Lit->α) {k x:Lit} (v:α) (h:x ≠ k):updF f k v x=f x:=by simp [updF,h]
section
variable {P:Program} {k:TypeId} {z:Value} {w:World} {b m:Nat} {f:Lit->Value} {h:Lit->Bool}
theorem MapF.lt (q:MapF P k z w b m f h):b<w.heap.size:=let ⟨_,o,_⟩:=q;o.lt
theorem MapF.new (P:Program) (k:TypeId) (z:Value) (w:World):MapF P k z (w.alloc (.map #[] 0)) w.heap.size 0 (fun _=>z) (fun _=>false):=
 ⟨.map [],World.ownsMap_made w P k RH,rfl,fun _=>rfl,fun _=>rfl⟩
theorem MapF.keep {S:Nat->Prop} {w':World} (q:MapF P k z w b m f h) (ho:Only S w w') (hn:¬ S b):MapF P k z w' b m f h:=by
 obtain ⟨D,⟨es,clock,hb,F,hs,hD⟩,h1,h2,h3⟩:=q;exact ⟨D,⟨es,clock,ho.heap hb hn,F,hs,hD⟩,h1,h2,h3⟩
theorem MapF.look {t e:TypeId} (q:MapF P k z w b m f h) (K:Maps.Keyed P k) (ht:P.underlying t=some (.map k e)) (hz:(zeroValue e).run P w=.ok z w) {key:Value} {kl:Lit} (hkey:keyOf P k key=some kl) :
  (Instr.lookup t (.map (some b)) key false).run P w=.ok (f kl) w:=by
 obtain ⟨D,o,_,h2,_⟩:=q;obtain ⟨v,ps,hr,hv⟩:=o.lookup K ht hz (zd:=.held z) (zp:=[]) rfl hkey;rw [h2] at hv;simp only [RH,Option.some.injEq,Prod.mk.injEq,DataW.held.injEq] at hv;rw [hr,hv.1]
theorem MapF.look_ok {t e:TypeId} (q:MapF P k z w b m f h) (K:Maps.Keyed P k) (ht:P.underlying t=some (.map k e)) (hz:(zeroValue e).run P w=.ok z w) {key:Value} {kl:Lit} (hkey:keyOf P k key=some kl) :
  (Instr.lookup t (.map (some b)) key true).run P w=.ok (.tuple #[f kl,.bool (h kl)]) w:=by
 obtain ⟨D,o,_,h2,h3⟩:=q;obtain ⟨v,ps,hr,hv⟩:=o.look_ok K ht hz (zd:=.held z) (zp:=[]) rfl hkey;rw [h2] at hv;simp only [RH,Option.some.injEq,Prod.mk.injEq,DataW.held.injEq] at hv;rw [hr,hv.1,h3]
theorem MapF.len {t e:TypeId} (q:MapF P k z w b m f h) (ht:P.underlying t=some (.map k e)) (ty:TypeId):(Builtin.len_ #[t] ty #[.map (some b)]).run P w=.ok (.int .i64 m) w:=by
 obtain ⟨D,o,h1,_⟩:=q;rw [o.len ht ty,h1]
theorem ZjE {w':World} (ht:w.mapTurned w' b):Only (fun i=>i=b) w w'/\w'.heap.size=w.heap.size:=by
 have hg:=ht.grown;obtain ⟨es,clock,es',clock',hb,rfl⟩:=ht;exact ⟨⟨hg.os,hg.tape,hg.output,hg.size,fun i hi hn=>hg.block i hi (fun e=>hn (Option.some.inj e))⟩,by simp [setBlock]⟩
theorem MapF.store {t e:TypeId} (q:MapF P k z w b m f h) (K:Maps.Keyed P k) (ht:P.underlying t=some (.map k e)) (hm:m<maxLen) {key val:Value} {kl:Lit} (hkey:keyOf P k key=some kl) :
  ∃ w',(Instr.mapUpdate t (.map (some b)) key val).run P w=.ok () w'/\MapF P k z w' b (if h kl then m else m+1) (updF f kl val) (updF h kl true)/\Only (fun i=>i=b) w w'/\w'.heap.size=w.heap.size:=by
 obtain ⟨D,o,h1,h2,h3⟩:=q;obtain ⟨w',hr,o',htn⟩:=o.store K ht hm (d:=.held val) (ps:=[]) hkey rfl;have hkl:=K.key hkey;obtain ⟨g1,g2⟩:=ZjE htn;refine ⟨w',hr,⟨D.put kl (.held val),?_,?_,fun x=>?_,fun x=>?_⟩,g1,g2⟩
 ·have hs:=Maps.size_put (k:=kl) (o.tidy K) (.held val:DataW Value);rw [h1,h3] at hs;obtain ⟨es,clock,hb,F,hle,hD⟩:=o';refine ⟨es,clock,hb,F,?_,hD⟩;have:Maps.size (D.put kl (.held val))=es.size:=by rw [hD];simp [Maps.size,length_sorted]
  rw [←hs,this];exact Nat.le_refl _
 ·have hs:=Maps.size_put (k:=kl) (o.tidy K) (.held val:DataW Value);rw [h1,h3] at hs;exact hs
 ·by_cases e:x=kl
  ·subst e;rw [Maps.atKey_put_same o.isMap hkl,Zcc]
  ·rw [Maps.atKey_put_other e,Zbj f val e,h2]
 ·by_cases e:x=kl
  ·subst e;rw [Maps.has_put_same o.isMap hkl,Zcc]
  ·rw [Maps.has_put_other e,Zbj h true e,h3]
open Classical in
noncomputable def putW (P:Program) (t:TypeId) (m key val:Value) (W:World):World:=if q:∃ w',(Instr.mapUpdate t m key val).run P W=.ok () w' then q.choose else W
theorem MapF.put {t e:TypeId} (q:MapF P k z w b m f h) (K:Maps.Keyed P k) (ht:P.underlying t=some (.map k e)) (hm:m<maxLen) {key val:Value} {kl:Lit} (hkey:keyOf P k key=some kl) :
  (Instr.mapUpdate t (.map (some b)) key val).run P w=.ok () (putW P t (.map (some b)) key val w)/\MapF P k z (putW P t (.map (some b)) key val w) b (if h kl then m else m+1) (updF f kl val) (updF h kl true)/\
   Only (fun i=>i=b) w (putW P t (.map (some b)) key val w)/\(putW P t (.map (some b)) key val w).heap.size=w.heap.size:=by
 obtain ⟨w',hr,h1,h2,h3⟩:=q.store K ht hm (val:=val) hkey;have hq:∃ w',(Instr.mapUpdate t (.map (some b)) key val).run P w=.ok () w':=⟨w',hr⟩
 have he:putW P t (.map (some b)) key val w=w':=by
  unfold putW;rw [dif_pos hq];have h9:=hr.symm.trans hq.choose_spec
  injection h9 with _ e
  exact e.symm
 rw [he];exact ⟨hr,h1,h2,h3⟩
def MapG (P:Program) (k:TypeId) (z:Value) (w:World) (b r m:Nat) (f:Lit->Value) (h:Lit->Bool) (l:Lit->Bool) (c:Nat):Prop:=
 ∃ D,w.ranges P k RH b r m D l c/\(∀ kl,D.atKey kl (.held z)=.held (f kl))/\∀ kl,Maps.has D kl=h kl
theorem MapF.range {t e:TypeId} (q:MapF P k z w b m f h) (K:Maps.Keyed P k) (ht:P.underlying t=some (.map k e)) :
  ∃ w',(Instr.range t (.map (some b))).run P w=.ok (.pointer (some ⟨w.heap.size,0,none⟩)) w'/\MapG P k z w' b w.heap.size m f h h m/\Below w.heap.size w w'/\w'.heap.size=w.heap.size+1:=by
 obtain ⟨D,o,h1,h2,h3⟩:=q;obtain ⟨w',hr,hg,hgr,hs⟩:=o.range K ht;have e:Maps.has D=h:=funext h3;rw [e,h1] at hg;exact ⟨w',hr,⟨D,hg,h2,h3⟩,⟨hgr.os,hgr.tape,hgr.output,hgr.size,fun i hi=>hgr.block i hi (by simp)⟩,hs⟩
theorem MapG.ne {r:Nat} {l:Lit->Bool} {c:Nat} (q:MapG P k z w b r m f h l c):r ≠ b:=let ⟨_,g,_⟩:=q;g.ne
theorem MapG.left {r:Nat} {l:Lit->Bool} {c:Nat} (q:MapG P k z w b r m f h l c):w.rangeLeft b r=c:=let ⟨_,g,_⟩:=q;g.left_eq
theorem MapG.keep {r:Nat} {l:Lit->Bool} {c:Nat} {S:Nat->Prop} {w':World} (q:MapG P k z w b r m f h l c) (ho:Only S w w') (hn:¬ S b) (hr:¬ S r):MapG P k z w' b r m f h l c:=by
 obtain ⟨D,⟨es,clock,since,seen,c0,hb,F,hs,hD,hr',rest⟩,h2,h3⟩:=q;exact ⟨D,⟨es,clock,since,seen,c0,ho.heap hb hn,F,hs,hD,ho.heap hr' hr,rest⟩,h2,h3⟩
theorem MapG.next {r:Nat} {l:Lit->Bool} {c:Nat} (q:MapG P k z w b r m f h l c) (K:Maps.Keyed P k) (ty:TypeId) :
  (c=0/\(∀ kl,l kl=false)/\(Instr.next (.pointer (some ⟨r,0,none⟩)) false ty).run P w=.ok (.tuple #[.bool false]) w)\/
  ∃ key kl w' c',keyOf P k key=some kl/\l kl=true/\(Instr.next (.pointer (some ⟨r,0,none⟩)) false ty).run P w=.ok (.tuple #[.bool true,key,f kl]) w'/\
   MapG P k z w' b r m f h (fun x=>l x && !x.sameKey kl) c'/\c'<c/\Only (fun i=>i=r) w w'/\w'.heap.size=w.heap.size/\(Instr.entry (.pointer (some ⟨r,0,none⟩))).run P w'=.ok (.tuple #[key,f kl]) w':=by
 obtain ⟨D,g,h2,h3⟩:=q;rcases g.next K ty with h0|⟨key,v,kl,y,w',c',hkey,hl,hv,hat,hrun,hg,hc,hgr,hs,hen⟩
 ·exact Or.inl h0
 ·have hy:y=(.held v,[]):=(Option.some.inj hv).symm;have hf:v=f kl:=by
   have:=hat (.held z);rw [h2,hy] at this
   simpa using this.symm
  subst hf;exact Or.inr ⟨key,kl,w',c',hkey,hl,hrun,⟨D,hg,h2,h3⟩,hc,⟨hgr.os,hgr.tape,hgr.output,hgr.size,fun i hi hn=>hgr.block i hi (fun e=>hn (Option.some.inj e))⟩,hs,hen⟩
end
theorem Yaa:type_of% @List.getElem?_eq_getElem:=@List.getElem?_eq_getElem
theorem Yab:type_of% @Below.refl:=@Below.refl
theorem Yac:type_of% @Nat.le_refl:=@Nat.le_refl
theorem Yad:type_of% @List.mem_of_getElem?:=@List.mem_of_getElem?
theorem Yae:type_of% @Option.some.inj:=@Option.some.inj
theorem Yaf:type_of% @Only.ofBelow:=@Only.ofBelow
theorem Yag:type_of% @List.getElem?_eq_some_iff:=@List.getElem?_eq_some_iff
theorem Yah:type_of% @beq_eq_false_iff_ne:=@beq_eq_false_iff_ne
theorem Yai:type_of% @Nat.zero_le:=@Nat.zero_le
theorem Yaj:type_of% @decide_eq_false:=@decide_eq_false
theorem Yak:type_of% @List.mem_cons_self:=@List.mem_cons_self
theorem Yal:type_of% @List.length_append:=@List.length_append
theorem Yam:type_of% @Only.refl:=@Only.refl
theorem Yan:type_of% @Nat.le_trans:=@Nat.le_trans
theorem Yao:type_of% @List.getD_eq_getElem?_getD:=@List.getD_eq_getElem?_getD
theorem Yap:type_of% @List.mem_append:=@List.mem_append
theorem Yaq:type_of% @if_neg:=@if_neg
theorem Yar:type_of% @decide_eq_true:=@decide_eq_true
theorem Yas:type_of% @List.mem_cons_of_mem:=@List.mem_cons_of_mem
theorem Yat:type_of% @Bool.and_eq_true:=@Bool.and_eq_true
theorem Yau:type_of% @List.mem_cons:=@List.mem_cons
theorem Yav:type_of% @List.mem_singleton:=@List.mem_singleton
theorem Yaw:type_of% @List.getElem?_map:=@List.getElem?_map
theorem Yax:type_of% @Bool.true_and:=@Bool.true_and
theorem Yay:type_of% @List.take_of_length_le:=@List.take_of_length_le
theorem Yaz:type_of% @List.length_take:=@List.length_take
theorem YaA:type_of% @if_pos:=@if_pos
theorem YaB:type_of% @List.length_map:=@List.length_map
theorem YaC:type_of% @Nat.mul_one:=@Nat.mul_one
theorem YaD:type_of% @Bool.false_and:=@Bool.false_and
theorem YaE:type_of% @Nat.lt_or_ge:=@Nat.lt_or_ge
theorem YaF:type_of% @List.take_length:=@List.take_length
theorem YaG:type_of% @Array.getElem?_setIfInBounds:=@Array.getElem?_setIfInBounds
theorem YaH:type_of% @List.all_eq_true:=@List.all_eq_true
theorem YaI:type_of% @List.take_add_one:=@List.take_add_one
theorem YaJ:type_of% @List.length_cons:=@List.length_cons
theorem YaK:type_of% @List.getElem?_append_right:=@List.getElem?_append_right
theorem YaL:type_of% @Option.isSome_iff_exists:=@Option.isSome_iff_exists
theorem YaM:type_of% @List.foldl_cons:=@List.foldl_cons
theorem YaN:type_of% @List.any_eq_true:=@List.any_eq_true
theorem YaO:type_of% @decide_eq_true_eq:=@decide_eq_true_eq
theorem YaP:type_of% @List.getElem?_append_left:=@List.getElem?_append_left
theorem YaQ:type_of% @Bool.and_assoc:=@Bool.and_assoc
theorem YaR:type_of% @Bool.false_or:=@Bool.false_or
theorem YaS:type_of% @Bool.or_eq_true:=@Bool.or_eq_true
theorem YaT:type_of% @List.getElem?_eq_none:=@List.getElem?_eq_none
theorem YaU:type_of% @List.any_eq_false:=@List.any_eq_false
theorem YaV:type_of% @beq_self_eq_true:=@beq_self_eq_true
theorem YaW:type_of% @Option.map_eq_some_iff:=@Option.map_eq_some_iff
theorem YaX:type_of% @List.findIdx?_eq_some_iff_getElem:=@List.findIdx?_eq_some_iff_getElem
theorem YaY:type_of% @List.append_assoc:=@List.append_assoc
theorem YaZ:type_of% @List.length_eq_zero_iff:=@List.length_eq_zero_iff
theorem Ya0:type_of% @List.mem_iff_getElem?:=@List.mem_iff_getElem?
theorem Ya1:type_of% @List.mem_append_right:=@List.mem_append_right
theorem Ya2:type_of% @List.take_append_drop:=@List.take_append_drop
theorem Ya3:type_of% @List.append_nil:=@List.append_nil
theorem Ya4:type_of% @Nat.min_eq_left:=@Nat.min_eq_left
theorem Ya5:type_of% @congrArg:=@congrArg
theorem Ya6:type_of% @List.mem_append_left:=@List.mem_append_left
theorem Ya7:type_of% @Bool.not_eq_true':=@Bool.not_eq_true'
theorem Ya8:type_of% @List.foldl_append:=@List.foldl_append
theorem Ya9:type_of% @List.not_mem_nil:=@List.not_mem_nil
theorem Yba:type_of% @List.findSome?_append:=@List.findSome?_append
theorem Ybb:type_of% @List.map_append:=@List.map_append
theorem Ybc:type_of% @List.mem_map:=@List.mem_map
theorem Ybd:type_of% @Nat.zero_add:=@Nat.zero_add
theorem Ybe:type_of% @Only.setCell:=@Only.setCell
theorem Ybf:type_of% @Option.some.injEq:=@Option.some.injEq
theorem Ybg:type_of% @Bool.eq_iff_iff:=@Bool.eq_iff_iff
theorem Ybh:type_of% @List.mem_of_mem_take:=@List.mem_of_mem_take
theorem Ybi:type_of% @Nat.lt_of_lt_of_le:=@Nat.lt_of_lt_of_le
theorem Ybj:type_of% @List.getElem?_range:=@List.getElem?_range
theorem Ybk:type_of% @Bool.or_eq_false_iff:=@Bool.or_eq_false_iff
theorem Ybl:type_of% @Only.alloc:=@Only.alloc
theorem Ybm:type_of% @List.nil_append:=@List.nil_append
theorem Ybn:type_of% @List.set_cons_zero:=@List.set_cons_zero
theorem Ybo:type_of% @Only.drew:=@Only.drew
theorem Ybp:type_of% @List.getElem?_set_ne:=@List.getElem?_set_ne
theorem Ybq:type_of% @Addr.add_mid:=@Addr.add_mid
theorem Ybr:type_of% @Array.getElem?_eq_some_iff:=@Array.getElem?_eq_some_iff
theorem Ybs:type_of% @List.getElem?_set_self:=@List.getElem?_set_self
theorem Ybt:type_of% @Array.length_toList:=@Array.length_toList
theorem Ybu:type_of% @Bool.not_or:=@Bool.not_or
theorem Ybv:type_of% @Bool.and_false:=@Bool.and_false
theorem Ybw:type_of% @Option.none_or:=@Option.none_or
theorem Ybx:type_of% @List.count_cons:=@List.count_cons
theorem Yby:type_of% @List.find?_eq_none:=@List.find?_eq_none
theorem Ybz:type_of% @List.set_cons_succ:=@List.set_cons_succ
theorem YbA:type_of% @List.length_drop:=@List.length_drop
theorem YbB:type_of% @List.mem_flatMap:=@List.mem_flatMap
theorem YbC:type_of% @List.take_append_of_le_length:=@List.take_append_of_le_length
theorem YbD:type_of% @List.getElem?_of_mem:=@List.getElem?_of_mem
theorem YbE:type_of% @List.findSome?_cons:=@List.findSome?_cons
theorem YbF:type_of% @List.findIdx?_cons:=@List.findIdx?_cons
theorem YbG:type_of% @List.getElem?_drop:=@List.getElem?_drop
theorem YbH:type_of% @List.map_cons:=@List.map_cons
theorem YbI:type_of% @Nat.eq_zero_or_pos:=@Nat.eq_zero_or_pos
theorem YbJ:type_of% @List.drop_eq_getElem_cons:=@List.drop_eq_getElem_cons
theorem YbK:type_of% @List.mem_of_find?_eq_some:=@List.mem_of_find?_eq_some
theorem YbL:type_of% @List.mem_range:=@List.mem_range
theorem YbM:type_of% @List.take_zero:=@List.take_zero
theorem YbN:type_of% @Nat.not_lt_zero:=@Nat.not_lt_zero
theorem YbO:type_of% @Addr.mk.injEq:=@Addr.mk.injEq
theorem YbP:type_of% @Below.mono:=@Below.mono
theorem YbQ:type_of% @List.zipWith_cons_cons:=@List.zipWith_cons_cons
theorem YbR:type_of% @Bool.false_eq_true:=@Bool.false_eq_true
theorem YbS:type_of% @List.getElem?_take:=@List.getElem?_take
theorem YbT:type_of% @List.contains_iff_mem:=@List.contains_iff_mem
theorem YbU:type_of% @List.length_replicate:=@List.length_replicate
theorem YbV:type_of% @List.range_succ:=@List.range_succ
theorem YbW:type_of% @Option.map_some:=@Option.map_some
theorem YbX:type_of% @Bool.and_true:=@Bool.and_true
theorem YbY:type_of% @List.all_cons:=@List.all_cons
theorem YbZ:type_of% @List.all_eq_false:=@List.all_eq_false
theorem Yb0:type_of% @List.setIfInBounds_toArray:=@List.setIfInBounds_toArray
theorem Yb1:type_of% @List.findIdx_getElem:=@List.findIdx_getElem
theorem Yb2:type_of% @Array.getElem?_eq_getElem:=@Array.getElem?_eq_getElem
theorem Yb3:type_of% @List.findIdx?_eq_none_iff:=@List.findIdx?_eq_none_iff
theorem Yb4:type_of% @List.map_map:=@List.map_map
theorem Yb5:type_of% @List.cons.injEq:=@List.cons.injEq
theorem Yb6:type_of% @List.find?_some:=@List.find?_some
theorem Yb7:type_of% @Bool.eq_false_iff:=@Bool.eq_false_iff
theorem Yb8:type_of% @List.ext_getElem?:=@List.ext_getElem?
theorem Yb9:type_of% @List.flatMap_cons:=@List.flatMap_cons
theorem Yca:type_of% @List.length_range:=@List.length_range
theorem Ycb:type_of% @List.nodup_append:=@List.nodup_append
theorem Ycc:type_of% @List.nodup_nil:=@List.nodup_nil
theorem Ycd:type_of% @Array.getElem?_toList:=@Array.getElem?_toList
theorem Yce:type_of% @List.length_singleton:=@List.length_singleton
theorem Ycf:type_of% @Nat.add_zero:=@Nat.add_zero
theorem Ycg:type_of% @Option.or_eq_none_iff:=@Option.or_eq_none_iff
theorem Ych:type_of% @List.getElem_mem:=@List.getElem_mem
theorem Yci:type_of% @List.flatMap_append:=@List.flatMap_append
theorem Ycj:type_of% @List.length_set:=@List.length_set
theorem Yck:type_of% @List.map_congr_left:=@List.map_congr_left
theorem Ycl:type_of% @List.findSome?_eq_some_iff:=@List.findSome?_eq_some_iff
theorem Ycm:type_of% @Array.ext_getElem?:=@Array.ext_getElem?
theorem Ycn:type_of% @List.getElem?_zip_eq_some:=@List.getElem?_zip_eq_some
theorem Yco:type_of% @List.find?_isSome:=@List.find?_isSome
theorem Ycp:type_of% @List.getElem?_replicate:=@List.getElem?_replicate
theorem Ycq:type_of% @Bool.true_or:=@Bool.true_or
theorem Ycr:type_of% @List.all_append:=@List.all_append
theorem Ycs:type_of% @List.map_nil:=@List.map_nil
theorem Yct:type_of% @List.nodup_cons:=@List.nodup_cons
theorem Ycu:type_of% @List.set_append_right:=@List.set_append_right
theorem Ycv:type_of% @Nat.le_of_eq:=@Nat.le_of_eq
theorem Ycw:type_of% @Nat.min_le_left:=@Nat.min_le_left
theorem Ycx:type_of% @Nat.sub_self:=@Nat.sub_self
theorem Ycy:type_of% @List.findIdx?_append:=@List.findIdx?_append
theorem Ycz:type_of% @Nat.mul_le_mul_right:=@Nat.mul_le_mul_right
theorem YcA:type_of% @List.take_take:=@List.take_take
