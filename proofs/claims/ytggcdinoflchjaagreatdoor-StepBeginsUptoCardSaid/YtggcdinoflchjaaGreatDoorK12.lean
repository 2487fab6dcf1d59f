/- laws -/
import Derived.Lib.AppendZeros
import Derived.Test.YtggcdinoflchjaaGreatDoorK10
set_option maxRecDepth 100000
set_option maxHeartbeats 16000000
namespace Go.Proofs.YtggcdinoflchjaaGreatDoor
open Go.RowKit
def SlR {α:Type} (n:Nat) (R:Zao α):Zao (List α):=fun A w l v=>Src n R A w v l
theorem Za5 {P:Program} (w:World) (t ty e:TypeId) (i:TypeInfo) (size:Nat) (f:P.underlying t=some (.slice e)) (d:P.info? e=some i)
  (v:Value) (n:Nat) (xs:List Value) (a:w.ownsRow 0 e size v n xs) (A:Option Addr) (c:Nat):(Builtin.append_ #[t,t] ty #[v,.slice A 0 c]).run P w=.ok v w:=by
 rcases a.2 with ⟨rfl,rfl⟩|⟨g,l,j,rfl,_,m,b,_,k,h⟩
 ·cases A <;> simp [Builtin.append_,run_underlying f,sizeOf,typeInfo,d,Builtin.lenOf,Builtin.firstCells,loadCells,loadCellsFrom]
 ·cases A <;> simp [Builtin.append_,run_underlying f,sizeOf,typeInfo,d,Builtin.lenOf,Builtin.firstCells,b,storeCells,loadCells,loadCellsFrom]
theorem Zop {α:Type} {f:α->Value} (h:∀ x,(f x).cells=#[f x]) {A:Nat->Prop} {w:World} {b o:Nat} {l:List α} (i:∀ k x,l[k]? = some x->∃ v,Flat f A w x v/\v.cells.size=1/\∀ c u,v.cells[c]? = some u->w.cell? ⟨b,o+k * 1+c,none⟩=some u) :
  ∀ c u,(l.map f)[c]? = some u->w.cell? ((⟨b,o,none⟩:Addr).add c)=some u:=by
 intro c u a;rw [Yau] at a;cases d:l[c]? with
 | none=>rw [d] at a;cases a
 | some x=>
  rw [d] at a;cases a
  obtain ⟨v,rfl,_,g⟩:=i c x d;have:=g 0 (f x) (by rw [h];rfl);rw [Ybo];rw [YaG,YbY] at this;exact this
theorem Zlh {α:Type} {f:α->Value} (n:∀ x,(f x).cells=#[f x]) {t:TypeId} {w:World} {v:Value} {l:List α} (c:w.ownsRow 0 t 1 v (l.map f).length (l.map f)):Src 1 (Flat f) Anyw w v l:=by
 rcases c.2 with ⟨rfl,p⟩|⟨g,m,s,rfl,z,i,b,j,_⟩
 ·exact .inl ⟨_,_,rfl,List.eq_nil_of_length_eq_zero (by simpa using p)⟩
 ·refine .inr ⟨g,0,m,by rw [Yaz],⟨trivial,lt_of_block i,by rw [Yaz] at b;exact b,j⟩,fun k x r=>⟨_,rfl,by rw [n];rfl,fun y u a=>?_⟩⟩;rw [n] at a;have h:y=0:=by
   rcases YbP y with c|c
   ·exact c
   ·rw [Array.getElem?_eq_none (by simp;omega)] at a;cases a
  subst h;have q:u=f x:=by simpa using a.symm
  subst q;have d:=c.cells (g:=g) rfl k (f x) (by rw [Yau,r];rfl);rw [Ybo] at d;rw [YaG,YbY];exact d
theorem ZeD {α:Type} (a:List (List α)) (k:Nat) (x:List α) (b:a[k]? = some x):(a.take (k+1)).flatten=(a.take k).flatten++x:=by
 rw [YaL,b];simp
theorem ZfO {α:Type} (a:List (List α)) (k:Nat):(a.take k).flatten.length<=a.flatten.length:=by
 conv=>rhs;rw [←Ya1 k a,List.flatten_append,Yak]
 omega
def preN {α:Type} (a:List (List α)) (k:Nat):Nat:=(a.take k).flatten.length
def preV {α:Type} (f:α->Value) (a:List (List α)) (k:Nat):List Value:=(a.take k).flatten.map f
def Zpk (t:TypeId) (xs:List Value) (w:World) (e:Ending) (w':World):Prop:=∃ v,e=.returned v/\w'.ownsRow 0 t 1 v xs.length xs/\(∀ g,v.ownBlock=some g->w.heap.size<=g)/\Below w.heap.size w w'
theorem ZdY {w:World} {e:TypeId} {size:Nat} {v:Value} {n:Nat} {xs:List Value} (f:w.ownsRow 0 e size v n xs):∃ a m c,v=.slice a m c:=by
 rcases f.2 with ⟨rfl,_⟩|⟨g,d,b,rfl,_⟩
 ·exact ⟨_,_,_,rfl⟩
 ·exact ⟨_,_,_,rfl⟩
theorem Zgt:(Tryz.prog.info? 9).map (fun i=>(i.zero,i.size,i.bytes))=some (some (.string ⟨#[]⟩),1,16):=by kernel_rfl
theorem Zoq (n:Nat) (w:World) (A:n * 16<=140737488355328) :
  Calls Tryz.prog 204 #[.slice none 0 0,.int .i64 (n:Nat)] w fun e w'=>∃ v,e=.returned v/\w'.ownsRow 0 9 1 v 0 []/\(∀ g,v.ownBlock=some g->w.heap.size<=g)/\Below w.heap.size w w':=by
 obtain ⟨s,c,h,a,b⟩:=info_parts Zgt;have u:(n:Int)<=140737488355328:=by omega
 have y:(0:Int)<=(n:Int):=by omega
 by_cases r:n=0
 ·subst r;go_enter Tryz.func204,Tryz.ntmps204;go_wp2;go_ret;exact ⟨_,rfl,World.ownsRow_nil _ _ _ _,fun g k=>by simp [Value.ownBlock] at k,Yab _ _⟩
 ·have q:0<(n:Int):=by omega
  have t:=Hd (fun ty=>Lib.run_append_nil_zeros (P:=Tryz.prog) w 22 3 ty 9 s (.string ⟨#[]⟩) .i64 .i64 Tryz.underlying22 Tryz.underlying3 c h n (by omega) (by rw [a];decide) (by omega) (by rw [b];omega));have f:=grownCap_ge w n 0 9;have d:grownCap w n 0 9<=maxLen:=grownCap_le_maxLen w _ 0 9 (by unfold maxLen;omega);have i:(Builtin.zeroCells (.string ⟨#[]⟩:Value).cells n++Builtin.zeroCells (.string ⟨#[]⟩:Value).cells (grownCap w n 0 9 - n)).size=grownCap w n 0 9:=by
   rw [Array.size_append,size_zeroCells,size_zeroCells,show (.string ⟨#[]⟩:Value).cells.size=1 from rfl];omega
  have z:=Hd f;have m:=Hd d;have l:=Hd i;clear f d i c h a b;generalize grownCap w n 0 9=j at *;generalize (Builtin.zeroCells (.string ⟨#[]⟩:Value).cells n++Builtin.zeroCells (.string ⟨#[]⟩:Value).cells (j - n))=p at *;have x:(0:Int)<=(j:Int):=by omega
  go_enter Tryz.func204,Tryz.ntmps204
  go_wp2_with (at_builtin;refine Lib.wpList_append_run _ rfl _ _ 22 3 rfl (.slice none 0 0) (.int .i64 (n:Nat)) rfl rfl _ _ (t.o _) ?_)
  go_ret;refine ⟨_,rfl,⟨rfl,.inr ⟨w.heap.size,j,p,rfl,Yai _,heap_alloc_new w.drew _,Yai _,m.o,by rw [l.o,YaG],by simp⟩⟩,fun g k=>by simp [Value.ownBlock] at k;omega,(Yab _ w).drew.alloc (Yac _) _⟩
theorem Zj4 {A:Nat->Prop} (a:List (List (List UInt8))) (sv:Value) (w:World) (Z:Src 1 (SlR 1 StrR) A w sv a) (y:a.flatten.length * 16<=140737488355328) (aD:a.length<=1048576) :
  Calls Tryz.prog 148 #[sv] w (Zpk 9 (a.flatten.map strV) w):=by
 obtain ⟨aT,aq⟩:∃ aT,aT=a.flatten.map strV:=⟨_,rfl⟩
 rw [←aq];have a1:=Hd aq;clear aq;obtain ⟨l,s⟩:∃ l,l=a.flatten.length:=⟨_,rfl⟩
 have aG:=Hd s;have am:Hid (l * 16<=140737488355328):=Hd (by rw [s];exact y);clear s;obtain ⟨aK,af,aQ,av,aw⟩:=info_parts Zgt;have aX:=Hd Z;have U:=Hd y;obtain ⟨n,B⟩:∃ n,n=a.length:=⟨_,rfl⟩
 obtain ⟨ak,aH,rfl⟩:∃ ak aH,sv=.slice ak n aH:=by rw [B];exact Z.shape
 rw [←B] at aD;have aL:=Hd B;clear B;have ah:Hid (∀ k:Nat,k<n->∃ (b o:Nat) (x:List (List UInt8)) (v:Value),ak=some ⟨b,o,none⟩/\a[k]? = some x/\Src 1 StrR A w v x/\w.cell? ⟨b,o+k,none⟩=some v):=Hd (fun k aW=>by
  rcases Z with ⟨q,bg,X,rfl⟩|⟨b,o,a9,X,_,V⟩
  ·simp at X
   omega
  ·simp at X
   have ae:k<a.length:=by omega
   obtain ⟨v,h,bj,aR⟩:=V k _ (Yaa ae);refine ⟨b,o,_,v,X.1,Yaa ae,h,?_⟩;have:=aR 0 v (by obtain ⟨q,D,rfl⟩:=Src.shape h;rfl);rw [YaG,YbY] at this;exact this)
 clear Z y;have aB:a.flatten.length<=140737488355328:=by have:=U.o;omega
 have aY:=Hd aB;clear aB;go_enter Tryz.func148,Tryz.ntmps148;go_wp2
 go_loop [3,11] (fun a2 J=>∃ k:Nat,k<=n/\J=.int .i64 k/\a2=.int .i64 (preN a k:Nat)) (fun _ J=>n - (intOf J).toNat)
 case atStart=>exact ⟨0,Yai _,rfl,rfl⟩
 case round=>
  obtain ⟨k,aW,rfl,rfl⟩:=hrel;by_cases aE:k<n
  ·obtain ⟨b,o,x,v,rfl,O,h,V⟩:=ah.o k aE;obtain ⟨q,D,rfl⟩:=h.shape;have c:=Ya5 List.length (ZeD a k x O);rw [Yak] at c
   change preN a (k+1)=preN a k+x.length at c
   have C:preN a (k+1)<=a.flatten.length:=ZfO a (k+1);have aS:=aY.o;obtain ⟨t,aN⟩:∃ t,t=preN a k:=⟨_,rfl⟩
   rw [←aN] at c ⊢;have aI:=Hd c;have Q:(t:Int)+(x.length:Int)<=140737488355328:=by omega
   have bd:(0:Int)<=(t:Int):=by omega
   have ba:(0:Int)<=(x.length:Int):=by omega
   have a7:(0:Int)<=k:=by omega
   have bb:(k:Int)<(n:Int):=by omega
   clear c C aS h O aN;generalize x.length=m at *;go_wp2
   go_round
   case rel=>exact ⟨k+1,by omega,by go_num,by rw [aI.o];go_num⟩
   case measure=>simp [intOf];omega
  ·obtain rfl:k=n:=by omega
   have ag:preN a k=l:=by rw [aG.o];unfold preN;rw [Yaw (by rw [aL.o];exact Yac _)]
   rw [ag];clear ag
   go_wp2_with fail
   with_reducible refine (Zoq l w am.o).mono ?_
   rintro e bk ⟨bl,rfl,R,aa,Q⟩;obtain ⟨bc,bm,bp,aC⟩:=ZdY R;have ay:=Hd R;have aP:=Hd aa;have aA:=Hd Q;clear R aa Q;subst aC;go_wp2
   go_loopw [6,27] (fun aJ W wr=>∃ i:Nat,i<=k/\W=.int .i64 i/\wr.ownsRow 0 9 1 aJ (preV strV a i).length (preV strV a i)/\(∀ g,aJ.ownBlock=some g->w.heap.size<=g)/\Below w.heap.size w wr) (fun _ W _=>k - (intOf W).toNat)
   case atStart=>exact ⟨0,Yai _,rfl,ay.o,aP.o,aA.o⟩
   case round=>
    obtain ⟨i,bo,rfl,r,ad,ab⟩:=hrel;obtain ⟨K,al,ar,aF⟩:=ZdY r;subst aF;have j:=Hd r;have L:=Hd ad;have p:=Hd ab;clear r ad ab;by_cases ap:i<k
    ·obtain ⟨b,o,x,v,rfl,O,h,V⟩:=ah.o i ap;have F:=Yad (S:=fun _=>False) p.o;have aM:=F.cell V id;have c:=ZeD a i x O;have C:=ZfO a (i+1);have ao:Hid (∀ ty,∃ E w',(Builtin.append_ #[22,22] ty #[.slice K al ar,v]).run Tryz.prog wr=.ok E w'/\w'.ownsRow 0 9 1 E (preV strV a (i+1)).length (preV strV a (i+1))/\Grew wr (.slice K al ar) w' E):=Hd (fun ty=>by
      have ax:preV strV a (i+1)=preV strV a i++x.map strV:=by unfold preV;rw [c,Ya4]
      have ac:(preV strV a i).length=(a.take i).flatten.length:=by unfold preV;rw [Yaz]
      rw [ax,Yak];rcases h with ⟨q,D,rfl,rfl⟩|⟨a6,a4,au,rfl,_,az⟩
      ·refine ⟨_,_,Za5 _ _ ty _ aK 1 Tryz.underlying22 af _ _ _ j.o q D,?_,Grew.refl _ _⟩;simp only [Ycr,Ya2,List.length_nil,YbY];exact j.o
      ·have bh:(a.take i).flatten.length+x.length<=a.flatten.length:=by rw [←Yak,←c];exact C
       have a8:=U.o;have T:=Zop (f:=strV) (fun _=>rfl) az;have a0:=Zbi (P:=Tryz.prog) wr 22 ty 9 aK (.string ⟨#[]⟩) 1 16 Tryz.underlying22 af aQ av aw rfl (by decide) _ _ _ j.o ⟨a6,a4,none⟩ x.length au (x.map strV) (by simp)
        (fun bn u a3=>F.cell (T bn u a3) id) (fun u a5=>by obtain ⟨br,_,rfl⟩:=Ya6.1 a5;rfl) (by rw [ac];unfold maxLen;omega) (by rw [ac];omega)
       rw [Yaz];exact a0)
     have N:∃ q D,v=.slice q x.length D:=h.shape
     obtain ⟨q,D,rfl⟩:=N;have bi:(0:Int)<=i:=by omega
     have bf:(i:Int)<(k:Int):=by omega
     clear V h O F c C
     go_wp2_with (at_builtin;(obtain ⟨E,w',H,z,d⟩:=ao.o _;refine Zak rfl _ _ 22 rfl _ _ E w' rfl rfl H ?_))
     have M:∀ g,E.ownBlock=some g->w.heap.size<=g:=fun g aO=>by
      rcases d.came with e|e
      ·exact L.o g (e ▸ aO)
      ·exact Yaq p.o.size (e g aO)
     have I:Below w.heap.size w w':=p.o.trans (d.only.below p.o.size (fun bq aZ=>L.o bq aZ));have Y:=Hd z;have aj:=Hd M;have ai:=Hd I;clear z M I d H aM;go_wp2
     go_roundw
     case rel=>exact ⟨i+1,by omega,by go_num,Y.o,aj.o,ai.o⟩
     case measure=>simp [intOf];omega
    ·obtain rfl:i=k:=by omega
     have G:wr.ownsRow 0 9 1 (.slice K al ar) aT.length aT:=by
      have aU:=j.o;unfold preV at aU;rw [Yaw (by rw [aL.o];exact Yac _),←a1.o] at aU;exact aU
     have aV:=Hd G;clear G;go_wp2;go_ret;exact ⟨_,rfl,aV.o,L.o,p.o⟩
theorem ZbO {A:Nat->Prop} {w:World} {c:Cls} {v:Value} (q:ClsR A w c v):∃ a d b,v=.agg #[.string (S c.name),.string (S c.sup),a,.bool c.itf,.bool c.abs,.bool c.fin,d,b]/\(∃ lo p,a=.slice lo c.like.length p)/\(∃ i fc,d=.slice i c.flds.length fc)/\∃ j f,b=.slice j c.mths.length f:=by
 obtain ⟨l,h,g,rfl,n,k,m⟩:=q;exact ⟨l,h,g,rfl,n.shape,k.shape,m.shape⟩
