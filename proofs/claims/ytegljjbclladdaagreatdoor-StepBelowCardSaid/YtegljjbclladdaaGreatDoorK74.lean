/- laws -/
import Derived.Test.YtegljjbclladdaaGreatDoorK73
set_option maxRecDepth 100000
set_option maxHeartbeats 16000000
namespace Go.Proofs.YtegljjbclladdaaGreatDoor
open Go.RowKit Proofs.Tryz
def reqE (er:Nat)(a:Bool)(e:Nat):Nat:=if er=0/\a=false then e else er
theorem Zch (l er e:Nat)(j:Bool)(cs:Array Value)(w:World)(f:Box w l cs 58)(i:cs[13]?=some (.int .i64 (er:Nat))) :
  Calls prog 19 #[.pointer (some ⟨l,0,none⟩),.bool j,.int .i64 (e:Nat)] w (fun en w'=>en=.returned (.tuple #[])/\Box w' l (cs.setIfInBounds 13 (.int .i64 (reqE er j e:Nat))) 58/\(w'=w\/w'=w.setCell ⟨l,13,none⟩ (.int .i64 (reqE er j e:Nat)))):=by
 have t:w.cell? ⟨l,13,none⟩=some (.int .i64 (er:Nat)):=f.cell 13 i;have s:w.frozen? ⟨l,13,none⟩=false:=f.free 13;have h:=f.set 13 (.int .i64 (reqE er j e:Nat));have g:=Hd h;have c:reqE er j e=er->cs.setIfInBounds 13 (.int .i64 (reqE er j e:Nat))=cs:=fun q=>by
  rw[q];refine Yck (fun x=>?_);rw[YaD];by_cases p:13=x
  ·subst p;obtain⟨r,u⟩:=Ybb.1 i;rw[Yay rfl,Yay r,i]
  ·rw[Yar p]
 have b:=Hd c;have m:=Hd f;clear f h c i;by_cases k:er=0
 ·subst k;cases j
  ·have a:reqE 0 false e=e:=rfl;rw[a]at g⊢;go_enter func19,ntmps19;go_wp2
   go_end0
   exact⟨rfl,g.o,.inr rfl⟩
  ·have a:reqE 0 true e=0:=rfl;have n:=b.o a;have d:=Hd n;clear n;rw[a]at d⊢;go_enter func19,ntmps19;go_wp2
   go_end0
   exact⟨rfl,by rw[d.o];exact m.o,.inl rfl⟩
 ·have a:reqE er j e=er:=by unfold reqE;rw[Yar (fun y=>k y.1)]
  have d:=Hd (b.o a);rw[a]at d⊢;have v:¬((er:Int)=0):=by omega
  clear k;go_enter func19,ntmps19;go_wp2
  go_end0
  exact⟨rfl,by rw[d.o];exact m.o,.inl rfl⟩
theorem Zkk (f er e:Nat)(cs:Array Value)(w:World)(c:Box w f cs 58)(b:cs[13]?=some (.int .i64 (er:Nat))) :
  Calls prog 19 #[.pointer (some ⟨f,0,none⟩),.bool true,.int .i64 (e:Nat)] w (fun en w'=>en=.returned (.tuple #[])/\w'=w):=
 (Zch f er e true cs w c b).mono (fun en w' ⟨d,_,a⟩=>by
  refine⟨d,?_⟩;rcases a with a|a
  ·exact a
  ·rw[a,show reqE er true e=er from by unfold reqE;rw[Yar (fun g=>by cases g.2)]];exact Zdd (c.cell 13 b))
def SubG (c:Nat)(o:List UInt8)(w:World)(e:Ending)(w':World):Prop:=∃a b,e=.returned (.func (.func 169) #[] #[.pointer (some ⟨a,0,none⟩),.pointer (some ⟨b,0,none⟩)])/\Box w' a #[.pointer (some ⟨c,0,none⟩)] 55/\Box w' b #[.string (S o)] 9/\w.heap.size<=a/\w.heap.size<=b/\Below w.heap.size w w'
theorem ZaT (a:Nat)(o:List UInt8)(w:World):Calls prog 106 #[.pointer (some ⟨a,0,none⟩),.string (S o)] w (SubG a o w):=by
 have b:=Ymf;unfold SubG;go_enter func106,ntmps106;go_wp2;go_ret;refine⟨w.heap.size,w.heap.size+1,rfl,?_,?_,Yad _,Nat.le_succ _,Zaa (Zaa (Yab _ _) _) _⟩
 ·unfold Box;exact Zaz _ (heap_alloc_new _ _)
 ·unfold Box;exact Zam _ _ _ (by simp)
theorem Zgu {A:Nat->Prop}{B:Nat->Nat}{k u:Nat}{es:List Ent}{h:World}(l:Tab A h k u B es)(n:Shape es)(i c b:Nat)(o s:List UInt8)(w:World)(g:Below h.heap.size h w)(a:o.length<=9223372036854775807)(x:s.length<=9223372036854775807)
  (m:w.cell? ⟨c,0,none⟩=some (.pointer (some ⟨i,0,none⟩)))(p:w.cell? ⟨b,0,none⟩=some (.string (S o)))(j:w.cell? ⟨i,0,none⟩=some (.pointer (some ⟨k,0,none⟩))) :
  Calls prog 169 #[.string (S s),.pointer (some ⟨c,0,none⟩),.pointer (some ⟨b,0,none⟩)] w (Said (subE es s o) w):=by
 have y:Hid (∀W,Below w.heap.size w W->Calls prog 114 #[.pointer (some ⟨k,0,none⟩),.string (S s),.string (S o)] W (Said (subE es s o) W)):=Hd (fun W f=>Zgv l n s o W (g.trans (f.mono g.size)) x a);have v:Hid (∀W,Below w.heap.size w W->W.cell? ⟨c,0,none⟩=some (.pointer (some ⟨i,0,none⟩))/\W.cell? ⟨b,0,none⟩=some (.string (S o))/\W.cell? ⟨i,0,none⟩=some (.pointer (some ⟨k,0,none⟩))):=Hd (fun W f=>by
  have a:=Yae (S:=fun _=>False) f;exact⟨a.cell m id,a.cell p id,a.cell j id⟩)
 clear l n g;go_enter func169,ntmps169
 go_upto_region 1 with fail;first
 |(go_region_held (fun W=>W.cell? ⟨c,0,none⟩=some (.pointer (some ⟨i,0,none⟩))/\W.cell? ⟨b,0,none⟩=some (.string (S o))/\W.cell? ⟨i,0,none⟩=some (.pointer (some ⟨k,0,none⟩))) ((refine v.o _ ?_;(with_reducible repeat (first|exact Yab _ _|assumption|(apply Zae;rotate_left;assumption)|refine Zab ?_))))
   ((go_at_call 114;(with_reducible refine(y.o _ ?_).mono ?_);(focus ((with_reducible repeat (first|exact Yab _ _|assumption|(apply Zae;rotate_left;assumption)|refine Zab ?_));done));rintro e t⟨rfl,r⟩)))
 |fail
 all_goals
  have d:Below w.heap.size w t:=by(with_reducible repeat (first|exact Yab _ _|assumption|(apply Zae;rotate_left;assumption)|refine Zab ?_))
  have q:=Hd d;clear d r j m p;go_wp2;go_ret;exact⟨rfl,q.o⟩
def FS (a n:Nat)(W:World):Prop:=∃(cs:Array Value) (t:TypeId),cs.size=n/\Box W a cs t
theorem Ztu {f n:Nat}{W a:World}(b:Below W.heap.size W a)(g:FS f n W):FS f n a:=let⟨cs,t,c,d⟩:=g;⟨cs,t,c,d.below b⟩
theorem Ztb {d n:Nat}{W:World}(c:Nat)(u:Value)(f:FS d n W):FS d n (W.setCell ⟨d,c,none⟩ u):=let⟨cs,t,a,b⟩:=f;⟨cs.setIfInBounds c u,t,by simp[a],b.set c u⟩
theorem FS.at_ {f n:Nat}{W:World}(g:FS f n W)(c:Nat)(d:c<n):W.cell? ⟨f,c,none⟩=some (atC W f c):=let⟨_,_,a,b⟩:=g;ZrK b (by rw[a];exact d)
theorem FS.free {b n:Nat}{W:World}(d:FS b n W)(c:Nat):W.frozen? ⟨b,c,none⟩=false:=let⟨_,_,_,a⟩:=d;a.free c
theorem Zr1 {c a:Nat}{W:World}{cs:Array Value}{t:TypeId}{v:Value}(d:Box W c cs t)(b:cs[a]?=some v):atC W c a=v:=by
 unfold atC;rw[d.cell a b];rfl
structure FX (X lo:Nat) (cs:Array Value) (v:Value) (l:List (List UInt8)) (S:Nat->Prop) (w W:World):Prop where
 box:Box W X cs 58
 row:KR lo W v l
 at_:cs[11]?=some v
 only:Only S w W
theorem Zoa {b lo:Nat}{cs:Array Value}{v:Value}{l:List (List UInt8)}{S:Nat->Prop}{w W:World}(a:FX b lo cs v l S w W):FX b lo cs v l S w W.drew:=⟨a.box,a.row,a.at_,a.only.drew⟩
theorem Zhw {d lo:Nat}{cs:Array Value}{v:Value}{l:List (List UInt8)}{S:Nat->Prop}{w W b:World}(a:Below W.heap.size W b)(c:FX d lo cs v l S w W):FX d lo cs v l S w b:=⟨c.box.below a,c.row.below a,c.at_,c.only.then (Yae (S:=fun _=>False) a) (fun _ _=>False.elim)⟩
theorem ZkQ {a lo:Nat}{cs:Array Value}{v:Value}{l:List (List UInt8)}{S:Nat->Prop}{w W:World}(o:Obj)(b:FX a lo cs v l S w W):FX a lo cs v l S w (W.alloc o):=Zhw (Zaa (Yab _ _) o) b
theorem FX.fs {b lo:Nat}{cs:Array Value}{v:Value}{l:List (List UInt8)}{S:Nat->Prop}{w W:World}(c:FX b lo cs v l S w W)(a:cs.size=14):FS b 14 W:=⟨cs,_,a,c.box⟩
theorem ZdP {cs:Array Value}{a:Nat}{u v:Value}(c:cs[a]?=some u):(cs.setIfInBounds a v)[a]?=some v:=by
 have b:a<cs.size:=(Ybb.1 c).1;rw[YaD,Yay rfl,Yay b]
theorem ZpC (cs:Array Value)(a:Nat)(u v:Value):(cs.setIfInBounds a u).setIfInBounds a v=cs.setIfInBounds a v:=by simp
theorem Zi6 (a lo:Nat)(cs:Array Value)(sv aj:Value)(stk l:List (List UInt8))(w:World)(A:Nat->Prop)(q:Box w a cs 58)(ab:cs.size=14)(aM:cs[11]?=some sv)(s:KR lo w sv stk)(ae:lo<=w.heap.size)(M:sv.ownBlock≠some a)(ag:Src 1 StrR A w aj l)(aO:∀i,A i->i≠a/\sv.ownBlock≠some i)(az:stk.length+l.length<=1048576)(av:∀x∈l,x.length<=281474976710656) :
  Calls prog 101 #[.pointer (some ⟨a,0,none⟩),aj] w (fun e w'=>e=.returned (.tuple #[])/\∃d,Box w' a (cs.setIfInBounds 11 d) 58/\KR lo w' d (stk++l)/\d.ownBlock≠some a/\Only (fun i=>i=a\/sv.ownBlock=some i) w w'/\(d.ownBlock=sv.ownBlock\/∀g,d.ownBlock=some g->w.heap.size<=g)):=by
 have aV:=Hd az;have aK:Hid (∀x W,x∈l->Calls prog 74 #[.string (S x)] W fun e w'=>e=.returned (.string (S x))/\Below W.heap.size W w'):=Hd (fun x W q=>ZaE (S x) W (by rw[Zat];exact av x q));have ad:Hid (∀W,Only (fun i=>i=a\/sv.ownBlock=some i) w W->Src 1 StrR A W aj l):=Hd (fun W al=>StrR.st.src ag al (fun k s e=>by have r:=aO k s;rcases e with e|e;exact r.1 e;exact r.2 e));obtain⟨ba,bh,rfl⟩:=ag.shape;obtain⟨n,ah⟩:∃n,n=l.length:=⟨_,rfl⟩
 have F:=Hd ah;have a8:n<=1048576:=by omega
 have aD:=Hd q;have ay:=Hd aM;have U:=Hd ab;have aT:=Hd s;have aP:=Hd M;have aw:=Hd ae;rw[←ah]at ad⊢;clear ag q aM s M aO av ah az ae ab;go_enter func101,ntmps101
 go_wp2_with fail;go_loopw [8] (fun ap wr=>∃(k:Nat) (v:Value),k<=n/\ap=.int .i64 k/\Box wr a (cs.setIfInBounds 11 v) 58/\KR lo wr v (stk++l.take k)/\v.ownBlock≠some a/\(v.ownBlock=sv.ownBlock\/∀g,v.ownBlock=some g->w.heap.size<=g)/\Only (fun i=>i=a\/sv.ownBlock=some i) w wr) (fun ap _=>n-(intOf ap).toNat)
 case atStart=>
  refine⟨0,sv,Yao _,rfl,?_,by rw[Yb0,YaN];exact aT.o,aP.o,.inl rfl,Yak _ _⟩;have r:=aD.o.set 11 sv;rw[Zdd (aD.o.cell 11 ay.o)]at r;exact r
 case round=>
  obtain⟨k,v,s,rfl,X,V,O,P,Y⟩:=hrel;have z:=Hd V;have J:=Hd O;have H:=Hd P;have G:=Hd Y;have N:=Hd X;clear V O P Y X;by_cases au:k<n
  ·obtain⟨x,q⟩:∃x,l[k]?=some x:=⟨_,Yaa (by rw[←F.o];exact au)⟩
   obtain⟨b,o,u,rfl,a3,_,af⟩:=Src.elem (ad.o wr G.o) k x q;obtain rfl:=a3;have a2:wr.cell? ⟨b,o+k,none⟩=some (.string (S x)):=by have t:=af 0 _ rfl;rw[YaH]at t;exact t
   have aE:=Hd (fun W=>aK.o x W (Yaf q));have aQ:Hid (stk++l.take (k+1)=(stk++l.take k)++[x]):=Hd (by rw[YaK,q,YaY];rfl);have a9:(0:Int)<=(k:Int):=by omega
   have a6:(k:Int)<(n:Int):=by omega
   have aa:FX a lo (cs.setIfInBounds 11 v) v (stk++l.take k) (fun i=>i=a\/sv.ownBlock=some i) w wr:=⟨N.o,z.o,ZdP ay.o,G.o⟩;have a5:Hid (∀W,FX a lo (cs.setIfInBounds 11 v) v (stk++l.take k) (fun i=>i=a\/sv.ownBlock=some i) w W->FS a 14 W):=Hd (fun W r=>r.fs (by simp[U.o]));have a7:Hid (∀W,FX a lo (cs.setIfInBounds 11 v) v (stk++l.take k) (fun i=>i=a\/sv.ownBlock=some i) w W->atC W a 11=v):=Hd (fun W r=>Zr1 r.box r.at_);have ax:Hid (∀W ty,FX a lo (cs.setIfInBounds 11 v) v (stk++l.take k) (fun i=>i=a\/sv.ownBlock=some i) w W->∃d w',(Builtin.append_ #[22,22] ty #[v,.slice (some ⟨W.heap.size,0,none⟩) 1 1]).run prog (W.alloc (.cells #[.string (S x)] 9))=.ok d w'/\
      ((∃ak c,d=.slice ak (stk.length+k+1) c)/\FS a 14 w'/\Box w' a (cs.setIfInBounds 11 v) 58/\KR lo w' d ((stk++l.take k)++[x])/\d.ownBlock≠some a/\(d.ownBlock=sv.ownBlock\/∀g,d.ownBlock=some g->w.heap.size<=g)/\Only (fun i=>i=a\/sv.ownBlock=some i) w w'/\w'.cell? ⟨a,11,none⟩=some v/\w'.frozen? ⟨a,11,none⟩=false)):=Hd (fun W ty m=>by
    have ao:(stk++l.take k).length=stk.length+k:=by rw[Yal,YaA,←F.o,Ybe s]
    have aI:=aV.o;rw[←F.o]at aI;obtain⟨d,w',a4,R,D⟩:=Zm2 (B:=W.heap.size) x m.row (Yaj aw.o m.only.size) (by omega) rfl ty;have aS:d.ownBlock≠some a:=fun e=>by
     rcases D.came with t|t
     ·exact J.o (t▸e)
     ·have bc:=t a e;have bj:=m.box.lt;omega
    have j:=m.box.keep D.only (fun e=>J.o e);have ai:Only (fun i=>i=a\/sv.ownBlock=some i) w w':=m.only.then D.only (fun i bf e=>by
     rcases H.o with t|t
     ·exact .inr (t▸e)
     ·have:=t i e;omega)
    refine⟨d,w',a4,?_,⟨_,_,by simp[U.o],j⟩,j,R,aS,?_,ai,j.cell 11 m.at_,j.free 11⟩
    ·obtain⟨ak,c,e⟩:=R.shape;rw[Yal,ao]at e;exact⟨ak,c,e⟩
    ·rcases D.came with t|t
     ·rcases H.o with aW|aW
      ·exact .inl (t.trans aW)
      ·exact .inr (fun g e=>aW g (t▸e))
     ·exact .inr (fun g e=>Yaj m.only.size (t g e)))
   have L:Hid (∀W,FX a lo (cs.setIfInBounds 11 v) v (stk++l.take k) (fun i=>i=a\/sv.ownBlock=some i) w W->W.cell? ⟨a,11,none⟩=some v/\W.frozen? ⟨a,11,none⟩=false):=Hd (fun W r=>⟨r.box.cell 11 r.at_,r.box.free 11⟩);have am:Hid (∀W,FX a lo (cs.setIfInBounds 11 v) v (stk++l.take k) (fun i=>i=a\/sv.ownBlock=some i) w W->Calls prog 74 #[.string (S x)] W (fun e w'=>∃u,e=.returned u/\(u=.string (S x)/\FX a lo (cs.setIfInBounds 11 v) v (stk++l.take k) (fun i=>i=a\/sv.ownBlock=some i) w w'))):=Hd (fun W al=>(aE.o W).mono (fun e w' ⟨aY,m⟩=>⟨_,aY,rfl,Zhw m al⟩));have a0:Hid (∀args w,(callFunc 74 args).run prog w=.ok (.enter 74 args) w):=Hd (Zac func74 (by kernel_rfl) rfl);have I:=Zoa aa;obtain⟨aC,aU⟩:=L.o _ I;clear af q;obtain⟨bg,bb,y⟩:=z.o.shape;rw[show(stk++l.take k).length=stk.length+k by rw[Yal,YaA,←F.o,Ybe s]]at y;rw[y]at aC;go_upto_region 3 with fail
   (go_region_law (first
     |(refine Zcu (by rfl) 74 #[.tmp 17] #[9] (by rfl) #[.string (S x)] (by rfl) (a0.o _ _) (am.o _ ?_) ?_;(focus ((with_reducible repeat (first|assumption|refine Zoa ?_|(apply Zhw;assumption)|refine ZkQ _ ?_));done));rintro bi ar⟨rfl,C⟩;obtain⟨aL,aX⟩:=L.o _ C;obtain⟨aN,a1⟩:=L.o _ (ZkQ (.cells #[.string (S x)] 9) C);rw[y]at aL aN)
     |(obtain⟨bd,w2,K,⟨h,f,rfl⟩,aG,Z,T,E,Q,ac,aR,aZ⟩:=ax.o ar 22 C;rw[y]at K aR;refine ZaK (by rfl) _ _ 22 (by rfl) _ _ _ w2 (by rfl) (by rfl) K ?_)))
   all_goals
    have aH:Hid (Box (w2.setCell ⟨a,11,none⟩ (.slice h (stk.length+k+1) f)) a (cs.setIfInBounds 11 (.slice h (stk.length+k+1) f)) 58):=Hd (by have r:=Z.set 11 (.slice h (stk.length+k+1) f);rw[ZpC]at r;exact r);have aJ:Hid (Only (fun i=>i=a\/sv.ownBlock=some i) w (w2.setCell ⟨a,11,none⟩ (.slice h (stk.length+k+1) f))):=Hd (ac.setCell (p:=⟨a,11,none⟩) (Or.inl rfl) _);have aF:Hid (KR lo (w2.setCell ⟨a,11,none⟩ (.slice h (stk.length+k+1) f)) (.slice h (stk.length+k+1) f) (stk++l.take (k+1))):=Hd (by
     rw[aQ.o];exact T.keep ((Yak (fun i=>i=a) w2).setCell (p:=⟨a,11,none⟩) rfl _) (fun g D e=>E (by rw[D];exact Ya8 some e)))
    have aA:=Hd E;have aB:=Hd Q;clear K aG Z T E Q ac aC aU aL aX aN a1 aR aZ C aa I a2;go_wp2;go_roundw
    case rel=>exact⟨k+1,_,by omega,by go_num,aH.o,aF.o,aA.o,aB.o,aJ.o⟩
    case measure=>simp[intOf];omega
  ·obtain rfl:n=k:=by omega
   have aq:l.take n=l:=by rw[F.o,YaE]
   rw[aq]at z;go_wp2;go_end0
   exact⟨rfl,v,N.o,z.o,J.o,G.o,H.o⟩
structure Zln where
 F:Nat
 first:Array Value
 caps:Array Value
def errT (a:Nat->Bool):Nat->Nat
 |0=>0
 |k+1=>reqE (errT a k) (a k) 73
theorem Zlh (b lo C bG:Nat)(cs:Array Value)(sv:Value)(stk:List (List UInt8))(f:List Zln)(l:Nat->Bool)(I:Nat->World->Prop)(Z:Nat->Prop)(w:World)(q:Box w b cs 58)(aL:cs.size=14)(G:cs[11]?=some sv)(J:cs[13]?=some (.int .i64 0))
  (U:KR lo w sv stk)(aw:sv.ownBlock≠some b)(aY:1<=f.length)(aZ:f.length<=stk.length)(bF:stk.length<=1048576)(aK:∀i t,f[i]?=some t->w.cell? ⟨C,i,none⟩=some (.func (.func t.F) t.first t.caps))(aN:C≠b)
  (a8:∀t∈f,∀args w,(callFunc t.F args).run prog w=.ok (.enter t.F args) w)(aO:I 0 w)(al:∀i W B,I i W->Below W.heap.size W B->I i B)(ad:∀i W v,I i W->I i (W.setCell ⟨b,13,none⟩ v)/\I i (W.setCell ⟨b,11,none⟩ v))
  (Q:∀i t s,f[i]?=some t->stk[stk.length-f.length+i]?=some s->∀W,I i W->Calls prog t.F (t.first.push (.string (S s))++t.caps) W (fun e B=>e=.returned (.bool (l i))/\I (i+1) B/\Only Z W B))
  (bh:∀k,Z k->k≠b/\k≠C/\sv.ownBlock≠some k/\k<w.heap.size) :
  Calls prog 103 #[.pointer (some ⟨b,0,none⟩),.slice (some ⟨C,0,none⟩) f.length bG] w (fun e w'=>∃aT aS,e=.returned aT/\Src 1 StrR (fun k=>w.heap.size<=k) w' aT (stk.drop (stk.length-f.length))/\Box w' b ((cs.setIfInBounds 11 aS).setIfInBounds 13 (.int .i64 (errT l f.length:Nat))) 58/\
   KR lo w' aS (stk.take (stk.length-f.length))/\aS.ownBlock=sv.ownBlock/\I f.length w'/\Only (fun i=>i=b\/Z i) w w'/\∃c,aT=.slice (some ⟨w.heap.size,0,none⟩) f.length c/\∀aQ,w'.frozen? ⟨w.heap.size,aQ,none⟩=false):=by
 have bY:=Ymf;obtain⟨g,d,rfl,bu,bP⟩:=U.there (by omega);obtain⟨n,y⟩:∃n,n=stk.length:=⟨_,rfl⟩
 obtain⟨m,r⟩:∃m,m=f.length:=⟨_,rfl⟩
 rw[←y]at aZ bF bu;rw[←r]at aZ aY;obtain⟨bE,bo,a3,bB,bj⟩:=info_parts ZcS;obtain⟨Y,a2,am,A⟩:=Zcq (P:=prog) 22 9 bE (.string ⟨#[]⟩) underlying22 bo a3 bB rfl m (by rw[bj];omega) (by unfold maxLen;omega) w;have z:=q.below A;have bb:Y.cell? ⟨b,11,none⟩=some (.slice (some ⟨g,0,none⟩) n d):=by rw[y];exact z.cell 11 G
 have bt:Y.cell? ⟨b,13,none⟩=some (.int .i64 0):=z.cell 13 J;rw[←y,←r];have bM:=Hd r;have aW:=Hd y;obtain⟨j,bI⟩:∃j:Nat,n=j+m:=⟨n-m,by omega⟩
 have bN:(n:Int)-(m:Int)=(j:Int):=by omega
 have bO:¬d=j:=by omega
 have bH:(n:Int)<=(d:Int):=by omega
 have bx:Hid (Calls prog 19 #[.pointer (some ⟨b,0,none⟩),.bool true,.int .i64 72] Y (fun en w'=>en=.returned (.tuple #[])/\w'=Y)):=Hd (Zkk b 0 72 cs Y z J);have D:(stk.drop j).length=m:=by rw[Ybr];omega
 have ae:=U.below A;obtain⟨h,bf,E,X⟩:=ZnJ am g j (d-j) (stk.drop j) D (fun k x q=>by
  rw[Ybo]at q;have bq:=World.ownsRow.cells (g:=g) ae rfl (j+k) (strV x) (by rw[Yav,q];rfl);rw[Ybn,Ya6]at bq;exact bq) 3
 have ao:Hid (∀i t s,f[i]?=some t->stk[j+i]?=some s->∀W,I i W->Calls prog t.F (t.first.push (.string (S s))++t.caps) W (fun e B=>e=.returned (.bool (l i))/\I (i+1) B/\Only Z W B)):=Hd (fun i t s aq bL=>Q i t s aq (by rw[←y,←r,show n-m+i=j+i by omega];exact bL));have bp:=Hd a8;have bV:=Hd al;have bm:=Hd ad;have R:=Hd bh;have ba:=Hd aL;have bv:=Hd J;have bQ:=Hd G;have bi:=Hd aK;have af:g≠b:=fun e=>aw (by rw[e];rfl);have aJ:=U.own g rfl;have ax:=q.lt;have K:=z.keep X (fun e=>by omega);have O:Below w.heap.size w h:=A.trans (X.below A.size (fun i ap=>by omega));have aC:KR lo h (.slice (some ⟨g,0,none⟩) n d) stk:=by
  have aA:=U.below O;rw[←y]at aA;exact aA
 have br:h.cell? ⟨b,11,none⟩=some (.slice (some ⟨g,0,none⟩) n d):=by rw[y];exact K.cell 11 G
 have a5:h.frozen? ⟨b,11,none⟩=false:=K.free 11;clear r y;subst bI;go_enter func103,ntmps103
 go_wp2_with fail;with_reducible refine bx.o.mono ?_
 rintro e w2⟨rfl,rfl⟩;go_wp2_with fail;have bX:g≠w.heap.size:=by omega
 have M:Only (fun i=>i=b) h (h.setCell ⟨b,11,none⟩ (.slice (some ⟨g,0,none⟩) j d)):=(Yak (fun i=>i=b) h).setCell (p:=⟨b,11,none⟩) rfl _;have aj:=K.set 11 (.slice (some ⟨g,0,none⟩) j d);have ai:KR lo (h.setCell ⟨b,11,none⟩ (.slice (some ⟨g,0,none⟩) j d)) (.slice (some ⟨g,0,none⟩) j d) (stk.take j):=(aC.take j (by rw[←aW.o];omega)).keep M (fun i ap e=>af (by rw[←e];exact(Yac ap)));have ak:I 0 (h.setCell ⟨b,11,none⟩ (.slice (some ⟨g,0,none⟩) j d)):=(ad 0 h _ (al 0 w h aO O)).2;have V:=E.keep M (fun e=>by omega);have H:Only (fun i=>i=b\/Z i) w (h.setCell ⟨b,11,none⟩ (.slice (some ⟨g,0,none⟩) j d)):=(Yae (S:=fun i=>i=b\/Z i) O).then M (fun i _ e=>.inl e);generalize bn:h.setCell ⟨b,11,none⟩ (.slice (some ⟨g,0,none⟩) j d)=aR at aj ai ak V H⊢;have av:=Hd aj;have a1:=Hd ai;have a0:=Hd ak;have a4:=Hd V;have aV:=Hd H;have bw:=Hd af;have bD:=Hd aN;have bA:=Hd ax;have bR:=Hd aJ;have bT:=H.size;clear bn aj ai ak V H bf a2 br a5 bb bt K z aC O X E am A M ae af aJ ax q U al ad aO Q a8 bh aL J G aK aN aw bx;go_loopw [49] (fun aa wr=>∃k:Nat,k<=m/\aa=.int .i64 k/\Box wr b ((cs.setIfInBounds 11 (.slice (some ⟨g,0,none⟩) j d)).setIfInBounds 13 (.int .i64 (errT l k:Nat))) 58/\I k wr/\Only (fun i=>i=b\/Z i) aR wr) (fun aa _=>m-(intOf aa).toNat)
 case atStart=>
  refine⟨0,Yao _,rfl,?_,a0.o,Yak _ _⟩;have aA:=av.o.set 13 (.int .i64 0);rw[Zdd (av.o.cell 13 (by rw[YaD,Yar (by decide)];exact bv.o))]at aA;exact aA
 case round=>
  obtain⟨k,U,rfl,aG,aP,N⟩:=hrel;have au:=Hd aG;have aH:=Hd aP;have az:=Hd N;have aE:Hid (Only (fun i=>i=b\/Z i) w wr):=Hd (aV.o.trans N);have a6:¬((w.heap.size=b)\/Z w.heap.size):=fun e=>by
   rcases e with e|e
   ·have:=bA.o;omega
   ·have:=(R.o _ e).2.2.2;omega
  have L:=Hd (a4.o.keep N a6);clear aG aP N;by_cases aB:k<m
  ·obtain⟨t,ar⟩:∃t,f[k]?=some t:=⟨_,Yaa (by rw[←bM.o];exact aB)⟩
   obtain⟨x,q⟩:∃x,stk[j+k]?=some x:=⟨_,Yaa (by rw[←aW.o];omega)⟩
   have bC:wr.cell? ⟨C,k,none⟩=some (.func (.func t.F) t.first t.caps):=aE.o.cell (a:=⟨C,k,none⟩) (bi.o k t ar) (fun e=>by
    rcases e with e|e
    ·exact bD.o e
    ·exact(R.o C e).2.1 rfl)
   have bJ:wr.cell? ⟨w.heap.size,k,none⟩=some (.string (S x)):=by
    rw[L.o.at_ k aB,Yav,Ybo,q];rfl
   have ah:=Hd (ao.o k t x ar q wr aH.o);have aI:=bp.o t (Yaf ar);have bW:(0:Int)<=(k:Int):=by omega
   have bS:(k:Int)<(m:Int):=by omega
   clear ar q;obtain⟨b1,b0,bZ⟩:=t;simp only at bC ah aI;go_wp2_with fail;with_reducible refine ah.o.mono ?_
   rintro e T⟨rfl,aM,ab⟩;have ag:=au.o.keep ab (fun e=>(R.o b e).1 rfl);have bU:=Hd ag;have aD:Hid (Calls prog 19 #[.pointer (some ⟨b,0,none⟩),.bool (l k),.int .i64 73] T (fun en w'=>en=.returned (.tuple #[])/\Box w' b (((cs.setIfInBounds 11 (.slice (some ⟨g,0,none⟩) j d)).setIfInBounds 13 (.int .i64 (errT l k:Nat))).setIfInBounds 13 (.int .i64 (errT l (k+1):Nat))) 58/\(w'=T\/w'=T.setCell ⟨b,13,none⟩ (.int .i64 (errT l (k+1):Nat))))):=
    Hd (Zch b (errT l k) 73 (l k) _ T ag (by rw[YaD,Yay rfl,Yay (by simp;rw[ba.o];omega)]))
   have ay:=Hd aM;have bc:=Hd ab;clear ag aM ab bC bJ aI ah;go_wp2_with fail;with_reducible refine aD.o.mono ?_
   rintro e bd⟨rfl,aF,ac⟩;have a7:=Hd aF;have bg:Hid (I (k+1) bd):=Hd (by
    rcases ac with rfl|rfl
    ·exact ay.o
    ·exact(bm.o (k+1) T _ ay.o).1)
   have a9:Hid (Only (fun i=>i=b\/Z i) aR bd):=Hd (by
    have aq:Only (fun i=>i=b\/Z i) aR T:=az.o.then bc.o (fun i _ e=>.inr e);rcases ac with rfl|rfl
    ·exact aq
    ·exact aq.setCell (p:=⟨b,13,none⟩) (Or.inl rfl) _)
   clear aF ac aD;go_wp2;go_roundw
   case rel=>exact⟨k+1,by omega,by go_num,by have aA:=a7.o;rw[ZpC]at aA;exact aA,bg.o,a9.o⟩
   case measure=>simp[intOf];omega
  ·obtain rfl:m=k:=by omega
   have bz:Hid (KR lo wr (.slice (some ⟨g,0,none⟩) j d) (stk.take j)):=Hd (a1.o.keep az.o (fun i ap e=>by
    obtain rfl:g=i:=Yac ap;rcases e with e|e
    ·exact bw.o e
    ·exact(R.o g e).2.2.1 rfl))
   have aX:Hid (Src 1 StrR (fun k=>w.heap.size<=k) wr (.slice (some ⟨w.heap.size,0,none⟩) m m) (stk.drop j)):=Hd (.inr ⟨w.heap.size,0,m,by rw[D],⟨Yad _,L.o.lt,by rw[D];exact Yad _,by omega⟩,fun aQ x bs=>⟨strV x,rfl,rfl,fun p u bk=>by
    have aU:p=0:=by have:p<(strV x).cells.size:=(Ybb.1 bk).1;simp[Value.cells]at this;exact this
    subst aU;have bK:u=strV x:=by simpa[Value.cells]using bk.symm
    subst bK;have bl:aQ<m:=by rw[←D];exact(Yag.1 bs).1
    rw[Ya6,YaH];show wr.cell? ⟨w.heap.size,aQ,none⟩=_;rw[L.o.at_ aQ bl,Yav,bs];rfl⟩⟩)
   go_wp2;go_ret;refine⟨_,.slice (some ⟨g,0,none⟩) j d,rfl,?_,au.o,?_,rfl,aH.o,aE.o,_,rfl,fun aQ=>L.o.free aQ⟩
   ·rw[Nat.add_sub_cancel];exact aX.o
   ·rw[Nat.add_sub_cancel];exact bz.o
