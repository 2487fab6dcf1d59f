/- laws -/
import Derived.Test.YtegljjbclladdaaGreatDoorK22
import Derived.Laws.EntriesVeiled
import Derived.Shelf.Strings.OnBuilder
set_option maxRecDepth 100000
set_option maxHeartbeats 16000000
namespace Go.Proofs.YtegljjbclladdaaGreatDoor
open Go.RowKit Tryz
theorem Zaz {w:World}{k:Nat}{x:Obj}(o:Obj)(a:w.heap[k]?=some x):(w.alloc o).heap[k]?=some x:=((Yak (fun _=>False) _).alloc _).heap a id
theorem ZcC {α:Type}{n:Nat}{R:Zao α}{w:World}{b:Nat}{t:TypeId}(xs:List α)(a:List Value)(m:Nat)(cs:Array Value)(p:m=xs.length)(s:a.length=xs.length)(d:xs.length<=9223372036854775807)
  (l:∀(k:Nat) x u,xs[k]?=some x->a[k]?=some u->R Anyw w x u)(c:∀u∈a,u.cells.size=n)(q:cs=(ZaO a).toArray)(g:w.heap[b]?=some (.cells cs t (0,0))):Src n R Anyw w (.slice (some ⟨b,0,none⟩) m m) xs:=by
 subst p q;refine .inr ⟨b,0,xs.length,rfl,⟨trivial,lt_of_block g,Yad _,d⟩,fun k x i=>?_⟩;have f:k<a.length:=by rw[s];exact(Yag.1 i).1
 have h:a[k]?=some a[k]:=Yaa f;refine⟨a[k],l k x _ i h,c _ (Ycf f),fun v y j=>?_⟩;have r:=Zc7 (c _ (Ycf f)) j;unfold World.cell?;rw[g];show(ZaO a).toArray[0+k*n+v]?=some y;rw[Ya6,List.getElem?_toArray,ZcP a k v _ c h r];exact j
theorem Zdd {w:World}{a:Addr}{v:Value}(b:w.cell? a=some v):w.setCell a v=w:=by
 have d:(w.setCell a v).heap=w.heap:=by
  refine Yck (fun i=>?_);by_cases k:i=a.block
  ·subst k;unfold World.cell? at b;cases c:w.heap[a.block]? with
   |none=>rw[c]at b;cases b
   |some o=>
    rw[c]at b;cases o with
    |cells cs t f=>
     simp only at b;unfold World.setCell;simp only[Array.getElem?_modify,c,Yay trivial,YbV];cases h:a.spot.isSome with
     |true=>rw[h]at b;cases b
     |false=>
      rw[h]at b;have g:cs[a.off]?=some v:=b;have:cs.setIfInBounds a.off v=cs:=by
       refine Yck (fun s=>?_);rw[YaD];by_cases j:a.off=s
       ·subst j;rw[Yay rfl];obtain⟨l,u⟩:=Ybb.1 g;rw[Yay l,g]
       ·rw[Yar j]
      simp[this]
    |_=>cases b
  ·exact heap_setCell_other w a i v k
 unfold World.setCell at d⊢;obtain⟨p,r,n,q,m⟩:=w;simp only at d⊢;rw[d]
def KRF {α:Type}(f:α->Value)(t:TypeId)(lo:Nat)(w:World)(v:Value)(l:List α):Prop:=w.ownsRow lo t 1 v l.length (l.map f)
abbrev KR (lo:Nat)(w:World)(v:Value)(l:List (List UInt8)):Prop:=KRF strV 9 lo w v l
theorem ZjC {α:Type}{f:α->Value}(b:∀x,(f x).cells=#[f x])(l:List α):ZaO (l.map f)=l.map f:=by
 induction l with
 |nil=>rfl
 |cons x l a=>
  unfold ZaO at a⊢;rw[YbI,Yb6,a,b];rfl
theorem Zfw {w:World}{base lo:Nat}{e:TypeId}{size:Nat}{v:Value}{n:Nat}{xs:List Value}(h:w.ownsRow base e size v n xs)(c:∀g,v.ownBlock=some g->lo<=g):w.ownsRow lo e size v n xs:=by
 refine⟨h.1,?_⟩;rcases h.2 with f|⟨g,a,d,b,_,rest⟩
 ·exact .inl f
 ·exact .inr ⟨g,a,d,b,c g (by rw[b];rfl),rest⟩
section
variable {α:Type}{f:α->Value}{t:TypeId}{lo:Nat}{w w':World}{v:Value}{l:List α}
theorem KRF.own (a:KRF f t lo w v l):∀g,v.ownBlock=some g->lo<=g/\g<w.heap.size:=World.ownsRow.lt a
theorem KRF.mono {a:Nat}(c:KRF f t lo w v l)(b:a<=lo):KRF f t a w v l:=Zdb c b
theorem KRF.nil (f:α->Value)(t:TypeId)(lo:Nat)(w:World):KRF f t lo w (.slice none 0 0) []:=World.ownsRow_nil _ _ _ _
theorem KRF.empty (f:α->Value)(t:TypeId)(lo:Nat)(w:World)(a:lo<=w.heap.size):KRF f t lo (w.alloc (.cells #[] t)) (.slice (some ⟨w.heap.size,0,none⟩) 0 0) []:=
 ⟨by simp,.inr ⟨w.heap.size,0,#[],rfl,a,heap_alloc_new w _,Yad _,Yao _,by simp,by simp⟩⟩
theorem KRF.shape (i:KRF f t lo w v l):∃b c,v=.slice b l.length c:=by
 rcases i.2 with⟨rfl,a⟩|⟨g,d,h,rfl,_⟩
 ·exact⟨_,_,by rw[a]⟩
 ·exact⟨_,_,rfl⟩
theorem KRF.keep {S:Nat->Prop}(c:KRF f t lo w v l)(b:Only S w w')(a:∀g,v.ownBlock=some g->¬S g):KRF f t lo w' v l:=b.row c a
theorem KRF.below (b:KRF f t lo w v l)(a:Below w.heap.size w w'):KRF f t lo w' v l:=b.keep (Yae (S:=fun _=>False) a) (fun _ _=>id)
theorem KRF.src (i:∀x,(f x).cells=#[f x])(z:KRF f t lo w v l):Src 1 (Flat f) (fun k=>lo<=k) w v l:=by
 rcases z.2 with⟨rfl,n⟩|⟨g,h,A,rfl,m,q,j,b,s,B⟩
 ·exact .inl ⟨_,_,rfl,Ya0.1 n⟩
 ·refine .inr ⟨g,0,h,rfl,⟨m,lt_of_block q,j,b⟩,fun k x r=>⟨f x,rfl,by rw[i];rfl,fun y u a=>?_⟩⟩;rw[i]at a;have d:y=0:=by have:y < #[f x].size:=(Ybb.1 a).1;simpa using this
  subst d;have p:u=f x:=by simpa using a.symm
  subst p;have c:=World.ownsRow.cells (g:=g) z rfl k (f x) (by rw[Yav,r];rfl);rw[Ybn]at c;rw[YaH];exact c
theorem KRF.free (k:KRF f t lo w v l):∀g o n c,v=.slice (some ⟨g,o,none⟩) n c->∀m,w.frozen? ⟨g,m,none⟩=false:=by
 intro g o n c a m;rcases k.2 with⟨rfl,_⟩|⟨j,h,b,rfl,i,d,_⟩
 ·cases a
 ·simp only[Value.slice.injEq,Ya1,Ybz]at a;obtain⟨⟨rfl,_⟩,_⟩:=a;exact frozen_of_row w _ m b t d
theorem KRF.there (n:KRF f t lo w v l)(m:0<l.length):∃g c,v=.slice (some ⟨g,0,none⟩) l.length c/\l.length<=c/\c<=9223372036854775807:=by
 rcases n.2 with⟨_,j⟩|⟨g,b,h,rfl,i,k,d,a,_⟩
 ·omega
 ·exact⟨g,b,rfl,d,a⟩
theorem KRF.take {i:Option Addr}{n c:Nat}(y:KRF f t lo w (.slice i n c) l)(k:Nat)(s:k<=l.length):KRF f t lo w (.slice i k c) (l.take k):=by
 have a:(l.take k).length=k:=by rw[YaA];omega
 refine⟨by rw[YaB,YaH],?_⟩;rcases y.2 with⟨b,x⟩|⟨g,u,p,b,q,r,v,d,h,m⟩
 ·left;simp only[Value.slice.injEq]at b;obtain⟨rfl,_,rfl⟩:=b;have j:k=0:=by omega
  subst j;exact⟨rfl,by simp⟩
 ·right;simp only[Value.slice.injEq]at b;obtain⟨rfl,_,rfl⟩:=b;refine⟨g,c,p,by rw[a],q,r,by rw[a];omega,d,h,?_⟩;rw[a,YaH];rw[YaH]at m;rw[List.map_take,←m,YcC,Ybe s]
variable {P:Program}
theorem KRF.append {b o m c:Nat}{xs:List α}(D:∀x,(f x).oneCell'=true)(s ty:TypeId)(i:TypeInfo)(z:Value)(a:Nat)
  (F:P.underlying s=some (.slice t))(G:P.info? t=some i)(C:i.zero=some z)(j:i.size=1)(q:i.bytes=a)(y:z.cells.size=1)(M:KRF f t lo w v l)(A:lo<=w.heap.size)
  (E:m=xs.length)(J:∀k x,xs[k]?=some x->w.cell? ⟨b,o+k,none⟩=some (f x))(n:(l.length+xs.length)*a<=140737488355328)(L:l.length+xs.length<=9223372036854775807) :
  ∃d w',(Builtin.append_ #[s,s] ty #[v,.slice (some ⟨b,o,none⟩) m c]).run P w=.ok d w'/\KRF f t lo w' d (l++xs)/\Grew w v w' d:=by
 subst E;obtain⟨d,w',I,p,r⟩:=Zbw (P:=P) w s ty t i z 1 a F G C j q y (by decide) v l.length (l.map f) (Zdb M (Yao _)) ⟨b,o,none⟩ xs.length c (xs.map f) (by rw[YaB,YaH])
  (fun N u B=>by
   rw[Yav]at B;obtain⟨x,K,rfl⟩:=YaO.1 B;rw[Ybn];exact J N x K) (fun u H=>by obtain⟨x,_,rfl⟩:=Ya2.1 H;exact D x) (by unfold maxLen;omega) n
 refine⟨d,w',I,?_,r⟩;refine Zfw (base:=0) ?_ (fun g h=>?_)
 ·rw[Yal,Ya9];exact p
 ·rcases r.came with e|e
  ·rw[e]at h;exact(M.own g h).1
  ·exact Yaj A (e g h)
end
theorem Za2 (x:List UInt8):(strV x).cells=#[strV x]:=rfl
theorem ZeY (x:List UInt8):(strV x).oneCell'=true:=rfl
theorem ZcS:(prog.info? 9).map (fun i=>(i.zero,i.size,i.bytes))=some (some (.string ⟨#[]⟩),1,16):=by kernel_rfl
theorem Ztq {lo B:Nat}{W:World}{v:Value}{l:List (List UInt8)}(z:List UInt8)(u:KR lo W v l)(d:lo<=W.heap.size)(y:l.length<=1048576)(r:B=W.heap.size)(ty:TypeId) :
  ∃h w',(Builtin.append_ #[22,22] ty #[v,.slice (some ⟨B,0,none⟩) 1 1]).run prog (W.alloc (.cells #[.string (S z)] 9))=.ok h w'/\KR lo w' h (l++[z])/\Below lo W w':=by
 subst r;obtain⟨s,n,p,j,q⟩:=info_parts ZcS;have f:Below W.heap.size W (W.alloc (.cells #[.string (S z)] 9)):=(Yab _ _).alloc (Yad _) _;obtain⟨h,w',t,a,i⟩:=KRF.append (P:=prog) (w:=W.alloc (.cells #[.string (S z)] 9)) (b:=W.heap.size) (o:=0) (m:=1) (c:=1) (xs:=[z]) ZeY 22 ty s _ 16 underlying22 n p j q rfl (u.below f) (Yaj d f.size) rfl (fun k x a=>by
  cases k with
  |zero=>simp at a;subst a;exact(Box.new W #[.string (S z)] 9).cell 0 rfl
  |succ k=>simp at a) (by simp;omega) (by simp;omega)
 exact⟨h,w',t,a,(f.mono d).trans (i.only.below (Yaj d f.size) (fun g i=>(u.own g i).1))⟩
theorem Zm2 {lo B:Nat}{W:World}{v:Value}{l:List (List UInt8)}(z:List UInt8)(A:KR lo W v l)(r:lo<=W.heap.size)(y:l.length<=1048576)(s:B=W.heap.size)(ty:TypeId) :
  ∃a w',(Builtin.append_ #[22,22] ty #[v,.slice (some ⟨B,0,none⟩) 1 1]).run prog (W.alloc (.cells #[.string (S z)] 9))=.ok a w'/\KR lo w' a (l++[z])/\Grew W v w' a:=by
 subst s;obtain⟨t,n,p,h,q⟩:=info_parts ZcS;have f:Below W.heap.size W (W.alloc (.cells #[.string (S z)] 9)):=(Yab _ _).alloc (Yad _) _;obtain⟨a,w',u,d,i⟩:=KRF.append (P:=prog) (w:=W.alloc (.cells #[.string (S z)] 9)) (b:=W.heap.size) (o:=0) (m:=1) (c:=1) (xs:=[z]) ZeY 22 ty t _ 16 underlying22 n p h q rfl (A.below f) (Yaj r f.size) rfl (fun k x d=>by
  cases k with
  |zero=>simp at d;subst d;exact(Box.new W #[.string (S z)] 9).cell 0 rfl
  |succ k=>simp at d) (by simp;omega) (by simp;omega)
 refine⟨a,w',u,d,⟨(Yae f).trans i.only,?_⟩⟩;rcases i.came with e|e
 ·exact .inl e
 ·exact .inr (fun g j=>Yaj f.size (e g j))
theorem Zcu {P:Program}{b:Array Oper}{o:Oper}{a:Act}{w:World}{r:Act->World->Prop}{s:Exit->Act->World->Prop}{u:Prop}(g:o.guard=none)(c:Nat)(args:Array Operand)(i:Array TypeId)
  (m:o.op=.call { callee:=.value (.func c),args:=args,argTypes:=i })(vals:Array Value)(f:args.toList.map a.eval=vals.toList)(p:(callFunc c vals).run P w=.ok (.enter c vals) w){R:Value->World->Prop}
  (j:Calls P c vals w (fun e w'=>∃v,e=.returned v/\R v w'))(t:∀v w',R v w'->r (a.put o.dst v) w') :
  if Region.wanted o (yielded b a.tmps)=true then Oper.wp P o a w r s else u:=by
 have q:Region.wanted o (yielded b a.tmps)=true:=by simp[Region.wanted,g]
 rw[Yay q];have d:args.map a.eval=vals:=by rw[←Yce,Array.toList_map];exact f
 subst d;clear f;have k:(execOp a.eval o).run P w=.ok (.enter c (args.map a.eval)) w:=by
  have h:a.eval (.func c)=.func (.func c) #[] #[]:=rfl;simp[execOp,m,resolve,invoke,h,Deferred.ofValue,p]
 unfold Oper.wp;rw[k];exact j.mono (fun e w' ⟨v,n,l⟩=>by subst n;exact t v w' l)
theorem Zjg (w:World)(g:Nat)(cs:Array Value):Only (fun i=>i=g) w (w.setRow g cs):=
 ⟨rfl,rfl,rfl,by simp,fun k _ a=>by
  unfold World.setRow;simp only[Array.getElem?_modify];rw[Yar (fun e=>a e.symm)]⟩
theorem ZmZ:(prog.info? 9).map (·.size)=some 1:=by kernel_rfl
theorem ZnJ {W:World}{g m:Nat}{xs:List Value}(C:MRow W g m 9 xs)(b o c:Nat)(l:List (List UInt8))(t:l.length=m)(r:∀k x,l[k]?=some x->W.cell? ⟨b,o+k,none⟩=some (strV x))(ty:TypeId) :
  ∃w',(Builtin.copy_ #[22,22] ty #[.slice (some ⟨g,0,none⟩) m m,.slice (some ⟨b,o,none⟩) m c]).run prog W=.ok (.int .i64 (m:Nat)) w'/\MRow w' g m 9 (l.map strV)/\Only (fun i=>i=g) W w':=by
 rcases C.2 with⟨d,_⟩|⟨A,w,h,d,z,j,y,n,u,B⟩
 ·cases d
 simp only[Value.slice.injEq,Ya1,Ybz,and_true,true_and]at d;obtain⟨rfl,rfl⟩:=d;have a:(l.map strV).length=m:=by rw[YaB,t]
 have f:=run_copy_row prog W 22 22 ty 9 g 0 m m ⟨b,o,none⟩ m c h 9 (l.map strV) underlying22 ZmZ j (by rw[a];simp) (fun D v p=>by
  rw[Yav]at p;obtain⟨x,s,rfl⟩:=YaO.1 p;rw[Ybn];exact r D x s) (by rw[a];omega) (fun v d=>by obtain⟨x,_,rfl⟩:=Ya2.1 d;rfl)
 rw[a]at f;refine⟨_,f,⟨by rw[a];omega,.inr ⟨g,m,_,rfl,Yao _,setRow_heap W g h _ _ _ j,Yad _,n,?_,?_⟩⟩,Zjg _ _ _⟩
 ·simp only[Yb0,Ybq,List.size_toArray,Yal,Ybr,Yby,a];omega
 ·have q:h.toList.drop (0+m)=[]:=Ycr (by rw[Yby];omega);rw[q];simp only[Yb0,Ybq,YaN];rw[Yaz (by rw[a];omega)]
