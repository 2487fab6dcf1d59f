/- laws -/
import Derived.Test.YtegljjbclladdaaGreatDoorK13
set_option maxRecDepth 100000
set_option maxHeartbeats 16000000
namespace Go.Proofs.YtegljjbclladdaaGreatDoor
open Go.RowKit Tryz
def Ent.par (e:Ent):List Nat:=e.up.toList++e.lk
theorem YesNo.shift {n:Nat}{h g:Nat->World->Prop}{w:World}{e:Ending}(l:YesNo (fun w'=>∃k,k<n/\g (k+1) w') (h (n+1)) e w):YesNo (fun w'=>∃k,k<n+1/\g k w') (h (n+1)) e w:=by
 obtain⟨b,c,a,d⟩:=l;exact⟨b,c,fun i=>by obtain⟨k,j,f⟩:=a i;exact⟨k+1,by omega,f⟩,d⟩
theorem Zgm {A:Nat->Prop}{B:Nat->Nat}{Y U:Nat}{es:List Ent}{J:World}(H:Tab A J Y U B es)(G:Nat)(d:Array Value)(i:Nat)(e:Ent)(I:es[i]?=some e)(E N:Nat->World->Prop)(w:World)(p:∀args w,(callFunc G args).run prog w=.ok (.enter G args) w)
  (n:∀k w',E k w'->Below J.heap.size J w')(t:E 0 w)(r:Zjy B G d e.par E N)(j:e.lk.length<=9223372036854775807) :
  Calls prog 86 #[.pointer (some ⟨B i,0,none⟩),.func (.func G) #[] d] w (YesNo (fun w'=>∃k,k<e.par.length/\N k w') (E e.par.length)):=by
 obtain⟨cls,up,m⟩:=e;obtain⟨aa,ab,Z,sv,u,_,_,_,v⟩:=H.ent i _ I;have P:=Hd u;have ac:=Hd v;have R:=Hd n;have C:=(u.below (n 0 w t)).cell 9 rfl;have y:=(u.below (n 0 w t)).cell 10 rfl;cases up with
 |none=>
  have g:(Ent.mk cls none m).par=m:=rfl;rw[g]at r⊢;have D:w.cell? ⟨B i,9,none⟩=some (.pointer none):=C;have V:w.cell? ⟨B i,10,none⟩=some sv:=y;have K:=Hd (ZfK (B:=B) (A:=A) G d m sv E N w p (fun k w' q=>(EntP.st B).below v (n k w' q)) t r j);clear u v n C y p t r j g I H;go_enter func86,ntmps86
  go_wp2_with fail;refine K.o.mono ?_;rintro e z⟨b,rfl,l,c⟩;have f:=Hd l;have a:=Hd c;clear l c;cases b
  ·have h:=Hd (a.o rfl);clear f a;go_wp2;go_ret;exact⟨false,rfl,(fun q=>by cases q),fun _=>h.o⟩
  ·have h:=Hd (f.o rfl);clear f a;go_wp2;go_ret;exact⟨true,rfl,fun _=>h.o,(fun q=>by cases q)⟩
 |some O=>
  have g:(Ent.mk cls (some O) m).par=O::m:=rfl;rw[g]at r⊢;have D:w.cell? ⟨B i,9,none⟩=some (.pointer (some ⟨B O,0,none⟩)):=C;have L:=Hd (r 0 O w rfl t);have K:Hid (∀w',E 1 w'->Calls prog 141 #[sv,.func (.func G) #[] d] w' (YesNo (fun w'=>∃k,k<m.length+1/\N k w') (E (m.length+1)))):=Hd (fun w' T=>
   (ZfK (B:=B) (A:=A) G d m sv (fun k=>E (k+1)) (fun k=>N (k+1)) w' p (fun k s q=>(EntP.st B).below v (n (k+1) s q)) T (fun k x s W X=>r (k+1) x s (by simpa using W) X) j).mono (fun e s q=>q.shift))
  have Q:=Hd p;clear u v n C y p t r j g I H;rw[YaI];have p:=Q.o;go_enter func86,ntmps86
  go_wp2_with fail;refine L.o.mono ?_;rintro e z⟨b,rfl,l,c⟩;have f:=Hd l;have a:=Hd c;clear l c p D;cases b
  ·have F:=Hd (a.o rfl);have M:z.cell? ⟨B i,10,none⟩=some sv:=(P.o.below (R.o 1 z F.o)).cell 10 rfl;clear f a;go_wp2_with fail;refine(K.o z F.o).mono ?_;rintro e w2⟨b,rfl,l,c⟩;have f:=Hd l;have a:=Hd c;clear l c M;cases b
   ·have h:=Hd (a.o rfl);clear f a;go_wp2;go_ret;exact⟨false,rfl,(fun q=>by cases q),fun _=>h.o⟩
   ·have h:=Hd (f.o rfl);clear f a;go_wp2;go_ret;exact⟨true,rfl,fun _=>h.o,(fun q=>by cases q)⟩
  ·have h:=Hd (f.o rfl);clear f a;go_wp2;go_ret;exact⟨true,rfl,fun _=>⟨0,Nat.succ_pos _,h.o⟩,(fun q=>by cases q)⟩
def lkOf (es:List Ent)(i:Nat):List Nat:=match es[i]? with|some e=>e.lk|none=>[]
theorem Zbm {es:List Ent}{i:Nat}{e:Ent}(a:es[i]?=some e):lkOf es i=e.lk:=by unfold lkOf;rw[a]
def vis (es:List Ent):Nat->List Nat->List Nat->List Nat
 |0,_,_=>[]
 |f+1,b,l=>l.foldl (fun a d=>if(b++a).contains d then a else a++d::vis es f (b++a++[d]) (lkOf es d)) []
def ZbC (es:List Ent)(f:Nat)(b a:List Nat)(d:Nat):List Nat:=if(b++a).contains d then a else a++d::vis es f (b++a++[d]) (lkOf es d)
def accV (es:List Ent)(f:Nat)(a l:List Nat)(k:Nat):List Nat:=(l.take k).foldl (ZbC es f a) []
theorem Zfz (es:List Ent)(f:Nat)(a l:List Nat):vis es (f+1) a l=accV es f a l l.length:=by
 unfold accV;rw[YaE];rfl
theorem Znl (es:List Ent)(f:Nat)(a l:List Nat):accV es f a l 0=[]:=rfl
theorem Zib (es:List Ent)(f:Nat)(a l:List Nat)(k d:Nat)(b:l[k]?=some d):accV es f a l (k+1)=ZbC es f a (accV es f a l k) d:=by
 unfold accV;rw[YaK,b,Ybc];rfl
theorem ZpM (es:List Ent)(f:Nat)(b a:List Nat)(d:Nat):a <+: ZbC es f b a d:=by
 unfold ZbC;split
 ·exact List.prefix_rfl
 ·exact List.prefix_append _ _
theorem ZeH (es:List Ent)(f:Nat)(b:List Nat):∀(l a:List Nat),a <+: l.foldl (ZbC es f b) a
 |[],_=>List.prefix_rfl
 |d::l,a=>(ZpM es f b a d).trans (ZeH es f b l _)
theorem Zhh (es:List Ent)(f:Nat)(a l:List Nat)(k:Nat):accV es f a l k <+: vis es (f+1) a l:=by
 rw[Zfz];unfold accV;rw[YaE]
 conv=>rhs;rw[←Ya5 k l,Ybc]
 exact ZeH es f a _ _
def Deep (es:List Ent):Nat->List Nat->Prop
 |0,l=>l=[]
 |f+1,l=>∀d∈l,∃e,es[d]?=some e/\Deep es f e.lk
theorem Zke {α:Type}{a b:List α}(f:a <+: b){k:Nat}{x:α}(d:a[k]?=some x):b[k]?=some x:=by
 obtain⟨c,rfl⟩:=f;rw[YaR (Yag.1 d).1];exact d
theorem Ztt {es:List Ent}{f:Nat}{a l:List Nat}{k d:Nat}(j:l[k]?=some d)(i:(a++accV es f a l k).contains d=false) :
  (vis es (f+1) a l)[(accV es f a l k).length]?=some d/\(∀(g x:Nat),(vis es f (a++accV es f a l k++[d]) (lkOf es d))[g]?=some x->(vis es (f+1) a l)[(accV es f a l k).length+1+g]?=some x)/\
  accV es f a l (k+1)=accV es f a l k++d::vis es f (a++accV es f a l k++[d]) (lkOf es d):=by
 have b:accV es f a l (k+1)=accV es f a l k++d::vis es f (a++accV es f a l k++[d]) (lkOf es d):=by
  rw[Zib es f a l k d j];unfold ZbC;rw[i];rfl
 have c:=Zhh es f a l (k+1);refine⟨Zke c ?_,fun g x h=>Zke c ?_,b⟩
 ·rw[b,YaJ (Yad _),Ycz];rfl
 ·rw[b,YaJ (by omega),show(accV es f a l k).length+1+g-(accV es f a l k).length=g+1 from by omega,List.getElem?_cons_succ];exact h
theorem Znk {es:List Ent}{f:Nat}{a l:List Nat}{k d:Nat}(c:l[k]?=some d)(b:(a++accV es f a l k).contains d=true):accV es f a l (k+1)=accV es f a l k:=by
 rw[Zib es f a l k d c];unfold ZbC;rw[b];rfl
theorem ZcW:∀(n:Nat) (l:List Nat),l.Nodup->(∀x∈l,x<n)->l.length<=n
 |0,l,_,g=>by
  cases l with
  |nil=>simp
  |cons x l=>exact absurd (g x Yam) (YbN _)
 |n+1,l,c,g=>by
  have h:=ZcW n (l.erase n) (c.erase n) (fun x b=>by
   have f:=g x (List.mem_of_mem_erase b);have d:x≠n:=(c.mem_erase_iff.1 b).1;omega)
  have f:=List.length_erase_le (a:=n) (l:=l);have d:l.length<=(l.erase n).length+1:=by
   rw[List.length_erase];split<;>omega
  omega
theorem Ze0 (es:List Ent):∀(f:Nat) (M l:List Nat),M.Nodup->(M++vis es f M l).Nodup
 |0,M,l,r=>by simpa[vis]using r
 |f+1,M,l,r=>by
  have p:∀(l c:List Nat),(M++c).Nodup->(M++l.foldl (ZbC es f M) c).Nodup:=by
   intro l;induction l with
   |nil=>intro c g;exact g
   |cons d l q=>
    intro c g;refine q _ ?_;unfold ZbC;split
    ·exact g
    ·rename_i m;have h:d ∉ M++c:=by simpa using m
     have k:(M++c++[d]).Nodup:=by
      rw[Yb8];refine⟨g,by simp,fun a i b j=>?_⟩;have:b=d:=by simpa using j
      subst this;intro e;subst e;exact h i
     have n:=Ze0 es f _ (lkOf es d) k;simpa[YaY]using n
  have:=p l [] (by simpa using r);rw[Zfz];unfold accV;rw[YaE];exact this
def Met (w:World)(a:Nat)(b:List Nat):Prop:=
 ∃m f c,MapF prog 3 (.int .i64 0) w a m f c/\m<=b.length/\∀i:Nat,f (.int .i64 i)=.int .i64 (if b.contains i then 1 else 0)
theorem Met.keep {S:Nat->Prop}{w w':World}{a:Nat}{i:List Nat}(j:Met w a i)(g:Only S w w')(h:¬S a):Met w' a i:=by
 obtain⟨m,f,k,b,d,c⟩:=j;exact⟨m,f,k,b.keep g h,d,c⟩
theorem Met.lt {w:World}{a:Nat}{c:List Nat}(b:Met w a c):a<w.heap.size:=let⟨_,_,_,d,_⟩:=b;d.lt
theorem Met.new (w:World):Met (w.alloc (.map #[] 0)) w.heap.size []:=⟨0,_,_,MapF.new _ _ _ _,Yad _,fun i=>by simp⟩
theorem ZiL:Maps.Keyed prog 3:=Maps.int_keyed underlying3
theorem ZoE (i:Nat)(a:i<=9223372036854775807):keyOf prog 3 (.int .i64 i)=some (.int .i64 i):=
 Maps.keyOf_int_mk underlying3 (WalkArith.wf_i64 (by omega))
theorem ZrA (w:World):(zeroValue 3).run prog w=.ok (.int .i64 0) w:=by kernel_rfl
theorem Met.look {w:World}{a:Nat}{g:List Nat}(h:Met w a g)(i:Nat)(d:i<=9223372036854775807) :
  (Instr.lookup 185 (.map (some a)) (.int .i64 i) false).run prog w=.ok (.int .i64 (if g.contains i then 1 else 0)) w:=by
 obtain⟨m,f,k,b,j,c⟩:=h;rw[b.look ZiL underlying185 (ZrA w) (ZoE i d),c]
theorem Met.put {w:World}{a:Nat}{b:List Nat}(s:Met w a b)(i:Nat)(j:i<=9223372036854775807)(u:b.length<9223372036854775807) :
  (Instr.mapUpdate 185 (.map (some a)) (.int .i64 i) (.int .i64 1)).run prog w=.ok () (putW prog 185 (.map (some a)) (.int .i64 i) (.int .i64 1) w)/\
   Met (putW prog 185 (.map (some a)) (.int .i64 i) (.int .i64 1) w) a (b++[i])/\Only (fun k=>k=a) w (putW prog 185 (.map (some a)) (.int .i64 i) (.int .i64 1) w)/\
   (putW prog 185 (.map (some a)) (.int .i64 i) (.int .i64 1) w).heap.size=w.heap.size:=by
 obtain⟨m,f,r,h,t,n⟩:=s;obtain⟨l,p,q,g⟩:=h.put ZiL underlying185 (by unfold maxLen;omega) (val:=.int .i64 1) (ZoE i j);refine⟨l,⟨_,_,_,p,?_,fun d=>?_⟩,q,g⟩
 ·rw[Yal];split<;>simp<;>omega
 ·by_cases e:d=i
  ·subst e;rw[Zb5];simp
  ·have c:(Lit.int .i64 (d:Int))≠.int .i64 (i:Int):=by
    intro r;injection r with _ r
    omega
   rw[Zbk _ _ c,n];have:(b++[i]).contains d=b.contains d:=by simp[e]
   rw[this]
theorem ZkT {A:Nat->Prop}{B:Nat->Nat}{J I:Nat}{es:List Ent}{c:World}(s:Tab A c J I B es)(G:Nat)(a:Array Value)(g i:Nat)(e:Ent)(v:es[i]?=some e)(y H:Nat->World->Prop)(w:World)(t:Below c.heap.size c w)
  (r:∀k w',y k w'->Below c.heap.size c w')
  (q:y 0 ((w.alloc (.cells #[.map (some g)] 185)).alloc (.cells #[.func (.func G) #[] a] 105)))
  (E:Zjy B 229 #[.pointer (some ⟨w.heap.size,0,none⟩),.pointer (some ⟨w.heap.size+1,0,none⟩)] e.lk y H)(f:e.lk.length<=9223372036854775807) :
  Calls prog 204 #[.pointer (some ⟨B i,0,none⟩),.map (some g),.func (.func G) #[] a] w (YesNo (fun w'=>∃k,k<e.lk.length/\H k w') (y e.lk.length)):=by
 have z:=Ymf;obtain⟨M,N,K,sv,p,_,_,_,C⟩:=s.ent i _ v;have D:=Hd (ZfK (B:=B) (A:=A) 229 _ e.lk sv y H _ (Zac func229 (by kernel_rfl) rfl) (fun k w' x=>(EntP.st B).below C (r k w' x)) q E f);have h:Below c.heap.size c ((w.alloc (.cells #[.map (some g)] 185)).alloc (.cells #[.func (.func G) #[] a] 105)):=Zaa (Zaa t _) _;have F:((w.alloc (.cells #[.map (some g)] 185)).alloc (.cells #[.func (.func G) #[] a] 105)).cell? ⟨B i,10,none⟩=some sv:=(p.below h).cell 10 rfl;generalize e.lk.length=n at D⊢;clear p C r q E f v s t h;go_enter func204,ntmps204
 go_wp2_with fail;refine D.o.mono ?_;rintro e L⟨b,rfl,u,j⟩;have l:=Hd u;have d:=Hd j;clear u j F z;cases b
 ·have m:=Hd (d.o rfl);clear l d;go_wp2;go_ret;exact⟨false,rfl,(fun x=>by cases x),fun _=>m.o⟩
 ·have m:=Hd (l.o rfl);clear l d;go_wp2;go_ret;exact⟨true,rfl,fun _=>m.o,(fun x=>by cases x)⟩
def ZrD (B:Nat->Nat)(g:Nat)(a:Array Value)(b f c d:Nat)(i h:World->Prop)(w:World):Prop:=
 w.cell? ⟨f,0,none⟩=some (.map (some b))/\w.cell? ⟨c,0,none⟩=some (.func (.func g) #[] a)/\
  Calls prog 204 #[.pointer (some ⟨B d,0,none⟩),.map (some b),.func (.func g) #[] a] w (YesNo i h)
theorem Zof {A:Nat->Prop}{B:Nat->Nat}{ak ag:Nat}{es:List Ent}{T:World}(O:Tab A T ak ag B es)(M:Nat)(f:Array Value)(a m t d:Nat)(U:List Nat)(ac ad:World->Prop)(w:World)(F:∀args w,(callFunc M args).run prog w=.ok (.enter M args) w)
  (N:d<es.length)(Z:es.length<=1048576)(L:U.length<9223372036854775807)(u:Below T.heap.size T w)(v:Met w a U)(s:t≠a)
  (K:w.cell? ⟨m,0,none⟩=some (.map (some a)))(R:w.cell? ⟨t,0,none⟩=some (.func (.func M) #[] f))
  (p:U.contains d=true->∀w',Below w.heap.size w w'->ad w')
  (c:U.contains d=false->∀w',Only (fun k=>k=a) w w'->Met w' a (U++[d])->Calls prog M (#[entV B d]++f) w' (YesNo ac (ZrD B M f a m t d ac ad))) :
  Calls prog 229 #[.pointer (some ⟨B d,0,none⟩),.pointer (some ⟨m,0,none⟩),.pointer (some ⟨t,0,none⟩)] w (YesNo ac ad):=by
 obtain⟨aq,ap,al,sv,I,J⟩:=O.ent d es[d] (Yaa N);clear J;have y:Below w.heap.size w w:=Yab _ _;have i:d<=9223372036854775807:=by omega
 cases x:U.contains d with
 |true=>
  have q:Hid (∀W,Below w.heap.size w W->W.cell? ⟨m,0,none⟩=some (.map (some a))/\W.cell? ⟨B d,0,none⟩=some (.int .i64 d)/\(Instr.lookup 185 (.map (some a)) (.int .i64 d) false).run prog W=.ok (.int .i64 1) W):=Hd (fun W h=>by
   have n:=Yae (S:=fun _=>False) h;refine⟨n.cell K id,(I.below (u.trans (h.mono u.size))).cell 0 rfl,?_⟩;have:=(v.keep n id).look d i;rw[x]at this;exact this)
  have j:=Hd (p x);clear p c O N Z L u v s x F I K R i;obtain⟨C,z,H⟩:=q.o w y;go_enter func229,ntmps229
  go_upto_region 1 with fail;first
  |(go_region_held (fun W=>W.cell? ⟨m,0,none⟩=some (.map (some a))/\W.cell? ⟨B d,0,none⟩=some (.int .i64 d)/\(Instr.lookup 185 (.map (some a)) (.int .i64 d) false).run prog W=.ok (.int .i64 1) W) ((refine q.o _ ?_;(with_reducible repeat (first|exact Yab _ _|assumption|refine Zab ?_)))) (fail))
  |fail
  all_goals
   clear C z H;go_wp2;go_ret;exact⟨false,rfl,(fun P=>by cases P),fun _=>j.o _ (by(with_reducible repeat (first|exact Yab _ _|refine Zab ?_)))⟩
 |false=>
  have q:Hid (∀W,Below w.heap.size w W->W.cell? ⟨m,0,none⟩=some (.map (some a))/\W.cell? ⟨B d,0,none⟩=some (.int .i64 d)/\(Instr.lookup 185 (.map (some a)) (.int .i64 d) false).run prog W=.ok (.int .i64 0) W):=Hd (fun W h=>by
   have n:=Yae (S:=fun _=>False) h;refine⟨n.cell K id,(I.below (u.trans (h.mono u.size))).cell 0 rfl,?_⟩;have:=(v.keep n id).look d i;rw[x]at this;exact this)
  have X:Hid (∀W,Below w.heap.size w W->(Instr.mapUpdate 185 (.map (some a)) (.int .i64 d) (.int .i64 1)).run prog W=.ok () (putW prog 185 (.map (some a)) (.int .i64 d) (.int .i64 1) W)):=Hd (fun W h=>((v.keep (Yae (S:=fun _=>False) h) id).put d i L).1);have V:Hid (∀W,Below w.heap.size w W->(putW prog 185 (.map (some a)) (.int .i64 d) (.int .i64 1) W).cell? ⟨t,0,none⟩=some (.func (.func M) #[] f)/\Calls prog M (#[entV B d]++f) (putW prog 185 (.map (some a)) (.int .i64 d) (.int .i64 1) W) (YesNo ac (ZrD B M f a m t d ac ad))):=Hd (fun W h=>by
   have n:=Yae (S:=fun k=>k=a) h;obtain⟨_,Q,E,_⟩:=(v.keep (Yae (S:=fun _=>False) h) id).put d i L;exact⟨E.cell (n.cell R s) s,c x _ (n.trans E) Q⟩)
  have af:=Hd F;clear p c O N Z L u v s x F I K R i;obtain⟨C,z,H⟩:=q.o w y;go_enter func229,ntmps229
  go_upto_region 1 with fail;first
  |(go_region_held (fun W=>W.cell? ⟨m,0,none⟩=some (.map (some a))/\W.cell? ⟨B d,0,none⟩=some (.int .i64 d)/\(Instr.lookup 185 (.map (some a)) (.int .i64 d) false).run prog W=.ok (.int .i64 0) W) ((refine q.o _ ?_;(with_reducible repeat (first|exact Yab _ _|assumption|refine Zab ?_)))) (fail))
  |fail
  all_goals
   clear C z H;go_upto_region 3 with fail;obtain⟨C,z,H⟩:=q.o _ (Zab (Zab y));have aj:=X.o _ (Zab (Zab y));have Y:IntKind.i64.wrap 1=1:=by decide
   go_region
   all_goals
    clear C z H aj Y;have ah:=V.o _ (Zab (Zab y));obtain⟨aa,r⟩:=ah;have l:=Hd r;have F:=af.o;clear r q X V;generalize putW prog 185 (.map (some a)) (.int .i64 d) (.int .i64 1) w.drew.drew=ao at aa l⊢;go_wp2_with fail;refine l.o.mono ?_;rintro ae w2⟨b,rfl,D,c⟩;have j:=Hd D;have g:=Hd c;clear F aa D c l;cases b with
    |true=>
     have G:=Hd (j.o rfl);clear j g;go_wp2;go_ret;exact⟨true,rfl,fun _=>G.o,(fun P=>by cases P)⟩
    |false=>
     obtain⟨ai,Q,E⟩:=g.o rfl;have ab:=Hd E;clear j g E;go_wp2_with fail;refine ab.o.mono ?_;rintro ae am⟨b,rfl,D,c⟩;have j:=Hd D;have g:=Hd c;clear ai Q D c ab;cases b
     ·have G:=Hd (g.o rfl);clear j g;go_wp2;go_ret;exact⟨false,rfl,(fun P=>by cases P),fun _=>G.o⟩
     ·have G:=Hd (j.o rfl);clear j g;go_wp2;go_ret;exact⟨true,rfl,fun _=>G.o,(fun P=>by cases P)⟩
def Zni (B:Nat->Nat)(f:Nat)(a:Array Value)(lo:Nat)(L:List Nat)(c d:Nat->World->Prop):Prop:=
 ∀(k x:Nat) (w:World),L[k]?=some x->c k w->Calls prog f (#[entV B x]++a) w (fun e w'=>YesNo (d k) (c (k+1)) e w'/\Only (fun b=>b<lo) w w')
def Zng (lo:Nat)(a:Nat->World->Prop):Prop:=∀k w w',a k w->Only (fun b=>lo<=b) w w'->a k w'
theorem Zjr {es:List Ent}:∀(f:Nat) (M l:List Nat),Deep es f l->∀x∈vis es f M l,x<es.length
 |0,M,l,_,x,b=>by simp[vis]at b
 |f+1,M,l,p,x,b=>by
  rw[Zfz]at b;unfold accV at b;rw[YaE]at b;have r:∀(k a:List Nat),(∀d∈k,∃e,es[d]?=some e/\Deep es f e.lk)->(∀i∈a,i<es.length)->∀i∈k.foldl (ZbC es f M) a,i<es.length:=by
   intro k;induction k with
   |nil=>intro a _ c;exact c
   |cons d k s=>
    intro a m c;refine s _ (fun u q=>m u (Yau _ q)) ?_;unfold ZbC;split
    ·exact c
    ·obtain⟨e,n,j⟩:=m d Yam;intro i t;rcases Yaq.1 t with h|h
     ·exact c i h
     ·rcases Yai.1 h with g|g
      ·subst g;exact(Yag.1 n).1
      ·rw[Zbm n]at g;exact Zjr f _ _ j i g
  exact r l [] p (by simp) x b
theorem Zi1 {d a b:List Nat}(f:(d++b).Nodup)(c:a <+: b):(d++a).Nodup:=by
 obtain⟨g,rfl⟩:=c;rw[←YaY]at f;exact(Yb8.1 f).1
theorem Zoh {A:Nat->Prop}{B:Nat->Nat}{aX aR:Nat}{es:List Ent}{ao:World}(aa:Tab A ao aX aR B es)(aJ:es.length<=1048576)(W:∀(i:Nat) (e:Ent),es[i]?=some e->e.lk.length<=9223372036854775807)(T:Nat)(h:Array Value)
  (aK:∀args w,(callFunc T args).run prog w=.ok (.enter T args) w)(lo g:Nat)(aw:lo<=g) :
  ∀(f:Nat) (i:Nat) (e:Ent) (c:List Nat) (D al:Nat->World->Prop) (w:World),es[i]?=some e->Deep es f e.lk->c.Nodup->(∀x∈c,x<es.length)->(∀k w',D k w'->Below ao.heap.size ao w')->Zng lo D->
   Zni B T h lo (vis es f c e.lk) D al->D 0 w->Met w g c->
   Calls prog 204 #[.pointer (some ⟨B i,0,none⟩),.map (some g),.func (.func T) #[] h] w
    (YesNo (fun w'=>∃k,k<(vis es f c e.lk).length/\al k w') (fun w'=>D (vis es f c e.lk).length w'/\Met w' g (c++vis es f c e.lk)/\Only (fun b=>b<lo\/b=g) w w')):=by
 intro f;induction f with
 |zero=>
  intro i e c D al w G P V K y n ae F p;have ad:e.lk=[]:=P;have H:∀(a b:Obj),Only (fun k=>k<lo\/k=g) w ((w.alloc a).alloc b):=fun a b=>((Yak _ w).alloc a).alloc b;have t:∀(a b:Obj),Only (fun k=>lo<=k) w ((w.alloc a).alloc b):=fun a b=>((Yak _ w).alloc a).alloc b;have z:∀(a b:Obj),Only (fun _=>False) w ((w.alloc a).alloc b):=fun a b=>((Yak _ w).alloc a).alloc b;have r:=ZkT aa T h g i e G (fun _ w'=>D 0 w'/\Met w' g c/\Only (fun b=>b<lo\/b=g) w w') (fun k w'=>al k w') w (y 0 w F) (fun k w' r=>y 0 w' r.1) ⟨n _ _ _ F (t _ _),p.keep (z _ _) id,H _ _⟩
   (fun k x w' j _=>by rw[ad]at j;simp at j) (W i e G)
  rw[ad]at r;rw[ad];refine r.mono fun aL w' q=>q.mono (fun l q=>?_) (fun l q=>?_)
  ·obtain⟨k,aP,_⟩:=q;simp at aP
  ·exact⟨q.1,by simpa[vis]using q.2.1,q.2.2⟩
 |succ f aS=>
  intro i e c D al w G P V K y n ae F p;have H:∀(a b:Obj),Only (fun k=>k<lo\/k=g) w ((w.alloc a).alloc b):=fun a b=>((Yak _ w).alloc a).alloc b;have t:∀(a b:Obj),Only (fun k=>lo<=k) w ((w.alloc a).alloc b):=fun a b=>((Yak _ w).alloc a).alloc b;have z:∀(a b:Obj),Only (fun _=>False) w ((w.alloc a).alloc b):=fun a b=>((Yak _ w).alloc a).alloc b;have aW:=p.lt;have aV:lo<=w.heap.size:=by omega
  have R:=Zjr (f+1) c e.lk P;have U:(c++vis es (f+1) c e.lk).Nodup:=Ze0 es (f+1) c e.lk V;have r:=ZkT aa T h g i e G
   (fun k w'=>D (accV es f c e.lk k).length w'/\Met w' g (c++accV es f c e.lk k)/\Only (fun b=>b<lo\/b=g) w w'/\w'.cell? ⟨w.heap.size,0,none⟩=some (.map (some g))/\w'.cell? ⟨w.heap.size+1,0,none⟩=some (.func (.func T) #[] h))
   (fun _ w'=>∃k,k<(vis es (f+1) c e.lk).length/\al k w') w (y 0 w F) (fun k w' r=>y _ w' r.1)
   ⟨n _ _ _ F (t _ _),by rw[Znl,YaN];exact p.keep (z _ _) id,H _ _,by simp,by simp⟩
   (fun k d w' j ⟨aj,X,aF,ap,ah⟩=>by
    obtain⟨M,E,ax⟩:=P d (Yaf j);have av:d<es.length:=(Yag.1 E).1;have I:=Zhh es f c e.lk k;have am:(c++accV es f c e.lk k).Nodup:=Zi1 U I;have N:∀x∈c++accV es f c e.lk k,x<es.length:=fun x j=>by
     rcases Yaq.1 j with v|v
     ·exact K x v
     ·exact R x (I.subset v)
    have aU:=ZcW es.length _ am N;refine Zof aa T h g w.heap.size (w.heap.size+1) d (c++accV es f c e.lk k) _ _ w' aK av aJ (by omega) (y _ w' aj) X (by omega) ap ah (fun ai l u=>?_) (fun ai ar Q aq=>?_)
    ·have m:=Yae (S:=fun _=>False) u;show D (accV es f c e.lk (k+1)).length l/\Met l g (c++accV es f c e.lk (k+1))/\_;rw[Znk j ai];exact⟨n _ _ _ aj (Yae u),X.keep m id,aF.then (Yae (S:=fun _=>False) u) (fun _ _ r=>r.elim),m.cell ap id,m.cell ah id⟩
    ·obtain⟨aA,ac,af⟩:=Ztt j ai;have aB:D (accV es f c e.lk k).length ar:=n _ _ _ aj (Q.mono (fun b _ r=>by subst r;exact aw));have aE:(accV es f c e.lk k).length<(vis es (f+1) c e.lk).length:=(Yag.1 aA).1;have Y:accV es f c e.lk k++[d] <+: vis es (f+1) c e.lk:=by
      have:=Zhh es f c e.lk (k+1);rw[af]at this;exact(show accV es f c e.lk k++[d] <+: accV es f c e.lk k++d::_ from⟨_,by rw[YaY];rfl⟩).trans this
     rw[Zbm E]at ac af;refine(ae _ d ar aA aB).mono fun aZ w2 q=>?_;obtain⟨⟨b,aO,aM,aH⟩,m⟩:=q;have C:Only (fun b=>b<lo\/b=g) w' w2:=(Q.mono (fun b _ r=>Or.inr r)).trans (m.mono (fun b _ r=>Or.inl r));have aD:=C.cell ap (show ¬(w.heap.size<lo\/w.heap.size=g)by omega);have au:=C.cell ah (show ¬(w.heap.size+1<lo\/w.heap.size+1=g)by omega);refine⟨b,aO,fun Z=>⟨_,aE,aM Z⟩,fun Z=>⟨aD,au,?_⟩⟩;refine(aS d M (c++accV es f c e.lk k++[d]) (fun O=>D ((accV es f c e.lk k).length+1+O)) (fun O=>al ((accV es f c e.lk k).length+1+O)) w2 E ax (by rw[YaY];exact Zi1 U Y)
      (fun x j=>by
       rw[YaY]at j;rcases Yaq.1 j with v|v
       ·exact K x v
       ·exact R x (Y.subset v))
      (fun O s ab=>y _ s ab) (fun O s aI ab aQ=>n _ s aI ab aQ) (fun O x s az L=>ae _ x s (ac O x az) L) (aH Z) (aq.keep m (show ¬g<lo by omega))).mono fun aY s q=>?_
     obtain⟨b3,aC,aG,ag⟩:=q;refine⟨b3,aC,fun J=>?_,fun J=>?_⟩
     ·obtain⟨O,L,ay⟩:=aG J;exact⟨_,(Yag.1 (ac O _ (Yaa L))).1,ay⟩
     ·obtain⟨aN,aT,ak⟩:=ag J;show D (accV es f c e.lk (k+1)).length s/\Met s g (c++accV es f c e.lk (k+1))/\_;rw[af];refine⟨?_,?_,aF.trans (C.mono fun b _ r=>r) |>.trans ak,ak.cell aD (show ¬(w.heap.size<lo\/w.heap.size=g)by omega),ak.cell au (show ¬(w.heap.size+1<lo\/w.heap.size+1=g)by omega)⟩
      ·rw[Yal,YaI,show(accV es f c e.lk k).length+((vis es f (c++accV es f c e.lk k++[d]) M.lk).length+1)=(accV es f c e.lk k).length+1+(vis es f (c++accV es f c e.lk k++[d]) M.lk).length from by omega];exact aN
      ·have:c++(accV es f c e.lk k++d::vis es f (c++accV es f c e.lk k++[d]) M.lk)=c++accV es f c e.lk k++[d]++vis es f (c++accV es f c e.lk k++[d]) M.lk:=by simp
       rw[this];exact aT)
   (W i e G)
  refine r.mono fun aL w' q=>q.mono (fun l q=>q.choose_spec.2) (fun l q=>?_);rw[Zfz];exact⟨q.1,q.2.1,q.2.2.1⟩
def ifsL (es:List Ent)(f:Nat)(L:List Nat):List Nat:=L.foldl (fun a d=>a++vis es f a (lkOf es d)) []
def Zc4 (es:List Ent)(f:Nat)(L:List Nat):List Nat:=L++ifsL es f L
def ifsK (es:List Ent)(f:Nat)(L:List Nat)(k:Nat):List Nat:=(L.take k).foldl (fun a d=>a++vis es f a (lkOf es d)) []
theorem ZqD (es:List Ent)(f:Nat)(L:List Nat):ifsK es f L L.length=ifsL es f L:=by unfold ifsK ifsL;rw[YaE]
theorem Zog {es:List Ent}{f:Nat}{L:List Nat}{k d:Nat}(a:L[k]?=some d):ifsK es f L (k+1)=ifsK es f L k++vis es f (ifsK es f L k) (lkOf es d):=by
 unfold ifsK;rw[YaK,a,Ybc];rfl
theorem ZdW (es:List Ent)(f:Nat):∀(l a:List Nat),a <+: l.foldl (fun a d=>a++vis es f a (lkOf es d)) a
 |[],_=>List.prefix_rfl
 |_::l,_=>(List.prefix_append _ _).trans (ZdW es f l _)
theorem ZkS (es:List Ent)(f:Nat)(L:List Nat)(k:Nat):ifsK es f L k <+: ifsL es f L:=by
 unfold ifsK ifsL
 conv=>rhs;rw[←Ya5 k L,Ybc]
 exact ZdW es f _ _
theorem ZiH {es:List Ent}{f:Nat}{L:List Nat}(p:∀d∈L,∃e,es[d]?=some e/\Deep es f e.lk):(ifsL es f L).Nodup/\∀x∈ifsL es f L,x<es.length:=by
 have m:∀(h a:List Nat),(∀d∈h,∃e,es[d]?=some e/\Deep es f e.lk)->a.Nodup->(∀x∈a,x<es.length)->
   (h.foldl (fun a d=>a++vis es f a (lkOf es d)) a).Nodup/\∀x∈h.foldl (fun a d=>a++vis es f a (lkOf es d)) a,x<es.length:=by
  intro h;induction h with
  |nil=>intro a _ c g;exact⟨c,g⟩
  |cons d h n=>
   intro a i c g;obtain⟨e,q,k⟩:=i d Yam;refine n _ (fun r l=>i r (Yau _ l)) (Ze0 es f a _ c) (fun x j=>?_);rcases Yaq.1 j with b|b
   ·exact g x b
   ·rw[Zbm q]at b;exact Zjr f _ _ k x b
 exact m L [] p Yb9 (by simp)
theorem Znj {B:Nat->Nat}(t:Nat)(c:Array Value)(j m k d:Nat)(s r:World->Prop)(w:World)
  (n:w.cell? ⟨m,0,none⟩=some (.map (some j)))(p:w.cell? ⟨k,0,none⟩=some (.func (.func t) #[] c))
  (i:Calls prog 204 #[.pointer (some ⟨B d,0,none⟩),.map (some j),.func (.func t) #[] c] w (YesNo s r)) :
  Calls prog 219 #[.pointer (some ⟨B d,0,none⟩),.pointer (some ⟨m,0,none⟩),.pointer (some ⟨k,0,none⟩)] w (YesNo s r):=by
 have q:=Hd i;clear i;go_enter func219,ntmps219
 go_wp2_with fail;refine q.o.mono ?_;rintro u v⟨b,rfl,l,f⟩;have g:=Hd l;have a:=Hd f;clear n p l f q;cases b
 ·have h:=Hd (a.o rfl);clear g a;go_wp2;go_ret;exact⟨false,rfl,(fun i=>by cases i),fun _=>h.o⟩
 ·have h:=Hd (g.o rfl);clear g a;go_wp2;go_ret;exact⟨true,rfl,fun _=>h.o,(fun i=>by cases i)⟩
noncomputable def abvW (b:Nat)(a:Array Value)(w:World):World:=((w.alloc (.cells #[.func (.func b) #[] a] 105)).alloc (.map #[] 0)).alloc (.cells #[.map (some (w.heap.size+1))] 185)
theorem Zlp (p:Nat)(g:Array Value)(j:Value)(m r:World->Prop)(w:World)
  (i:Calls prog 143 #[j,.func (.func p) #[] g] (abvW p g w) (YesNo m (fun l=>
   Calls prog 143 #[j,.func (.func 219) #[] #[.pointer (some ⟨w.heap.size+1+1,0,none⟩),.pointer (some ⟨w.heap.size,0,none⟩)]] l (YesNo m r)))) :
  Calls prog 180 #[j,.func (.func p) #[] g] w (YesNo m r):=by
 have s:=Ymf;have k:=@run_makeMap prog;unfold abvW at i;have q:=Hd i;clear i;go_enter func180,ntmps180
 go_upto_region 2 with fail;clear k;go_wp2_with fail;refine q.o.mono ?_;rintro n u⟨b,rfl,h,d⟩;have f:=Hd h;have a:=Hd d;clear h d q;cases b
 ·have c:=Hd (a.o rfl);clear f a;go_wp2_with fail;refine c.o.mono ?_;rintro n t⟨b,rfl,h,d⟩;have f:=Hd h;have a:=Hd d;clear h d c;cases b
  ·have c:=Hd (a.o rfl);clear f a;go_wp2;go_ret;exact⟨false,rfl,(fun i=>by cases i),fun _=>c.o⟩
  ·have c:=Hd (f.o rfl);clear f a;go_wp2;go_ret;exact⟨true,rfl,fun _=>c.o,(fun i=>by cases i)⟩
 ·have c:=Hd (f.o rfl);clear f a;go_wp2;go_ret;exact⟨true,rfl,fun _=>c.o,(fun i=>by cases i)⟩
theorem Zia {A:Nat->Prop}{B:Nat->Nat}{az al:Nat}{es:List Ent}{F:World}(E:Tab A F az al B es)(ak:es.length<=1048576)(aa:∀(i:Nat) (e:Ent),es[i]?=some e->e.lk.length<=9223372036854775807)(c:Nat)(a:Array Value)
  (V:∀args w,(callFunc c args).run prog w=.ok (.enter c args) w)(lo f:Nat)(o:Option Nat)(L:List Nat)(ab:ZdA es L o)(ad:∀d∈L,∃e,es[d]?=some e/\Deep es f e.lk)(u O:Nat->World->Prop)(w:World)(ay:lo<=w.heap.size)
  (D:∀k w',u k w'->Below F.heap.size F w')(C:Zng lo u)(ae:Zni B c a lo (Zc4 es f L) u O)(af:u 0 w) :
  Calls prog 180 #[ptrV B o,.func (.func c) #[] a] w (YesNo (fun w'=>∃k,k<(Zc4 es f L).length/\O k w') (u (Zc4 es f L).length)):=by
 have H:(Zc4 es f L).length=L.length+(ifsL es f L).length:=by unfold Zc4;rw[Yal]
 have ag:Only (fun b=>lo<=b) w (abvW c a w):=(((Yak _ w).alloc _).alloc _).alloc _;have av:(abvW c a w).cell? ⟨w.heap.size+1+1,0,none⟩=some (.map (some (w.heap.size+1))):=by
  have q:=(Box.new ((w.alloc (.cells #[.func (.func c) #[] a] 105)).alloc (.map #[] 0)) #[.map (some (w.heap.size+1))] 185).cell 0 rfl;have e:((w.alloc (.cells #[.func (.func c) #[] a] 105)).alloc (.map #[] 0)).heap.size=w.heap.size+1+1:=by simp
  rw[e]at q;exact q
 have ar:(abvW c a w).cell? ⟨w.heap.size,0,none⟩=some (.func (.func c) #[] a):=
  ((Box.new w #[.func (.func c) #[] a] 105).below (Zaa (Zaa (Yab _ _) _) _)).cell 0 rfl
 have ai:Met (abvW c a w) (w.heap.size+1) []:=by
  have P:=Met.new (w.alloc (.cells #[.func (.func c) #[] a] 105));have ap:(w.alloc (.cells #[.func (.func c) #[] a] 105)).heap.size=w.heap.size+1:=by simp
  rw[ap]at P;exact P.keep ((Yak (fun _=>False) _).alloc _) id
 obtain⟨z,K⟩:=ZiH ad;refine Zlp c a _ _ _ w ?_;have l1:=Zfu E c a L o (fun k w'=>u k w'/\Only (fun b=>b<lo) (abvW c a w) w') (fun k w'=>O k w') (abvW c a w) V ab (fun k w' p=>D k w' p.1) ⟨C 0 _ _ af ag,Yak _ _⟩
  (fun k x w' j l=>(ae k x w' (by unfold Zc4;rw[YaR (Yag.1 j).1];exact j) l.1).mono fun e ax q=>q.1.mono' (fun p=>p) (fun p=>⟨p,l.2.trans q.2⟩))
 refine l1.mono fun e w' q=>q.mono (fun Q ⟨k,aB,am⟩=>⟨k,by omega,am⟩) (fun Q ⟨W,m⟩=>?_);have au:=m.cell av (show ¬w.heap.size+1+1<lo by omega);have ao:=m.cell ar (show ¬w.heap.size<lo by omega);have N:=ai.keep m (show ¬w.heap.size+1<lo by omega);have l2:=Zfu E 219 #[.pointer (some ⟨w.heap.size+1+1,0,none⟩),.pointer (some ⟨w.heap.size,0,none⟩)] L o
  (fun k w'=>u (L.length+(ifsK es f L k).length) w'/\Met w' (w.heap.size+1) (ifsK es f L k)/\w'.cell? ⟨w.heap.size+1+1,0,none⟩=some (.map (some (w.heap.size+1)))/\w'.cell? ⟨w.heap.size,0,none⟩=some (.func (.func c) #[] a))
  (fun _ w'=>∃k,k<(Zc4 es f L).length/\O k w') Q (Zac func219 (by kernel_rfl) rfl) ab (fun k w' p=>D _ w' p.1) ⟨W,N,au,ao⟩
  (fun k d w' j ⟨l,Y,ac,Z⟩=>by
   obtain⟨T,y,I⟩:=ad d (Yaf j);have n:=ZkS es f L k;have r:=Zog (es:=es) (f:=f) j;rw[Zbm y]at r;have v:=ZkS es f L (k+1);rw[r]at v;have s:∀(h x:Nat),(vis es f (ifsK es f L k) T.lk)[h]?=some x->(Zc4 es f L)[L.length+(ifsK es f L k).length+h]?=some x:=fun h x l=>by
    unfold Zc4;rw[YaJ (by omega)];refine Zke v ?_;rw[YaJ (by omega),show L.length+(ifsK es f L k).length+h-L.length-(ifsK es f L k).length=h from by omega];exact l
   refine Znj c a (w.heap.size+1) (w.heap.size+1+1) w.heap.size d _ _ w' ac Z ?_;refine(Zoh E ak aa c a V lo (w.heap.size+1) (by omega) f d T (ifsK es f L k) (fun h=>u (L.length+(ifsK es f L k).length+h)) (fun h=>O (L.length+(ifsK es f L k).length+h)) w' y I
    (by obtain⟨aD,aq⟩:=n;rw[←aq]at z;exact(Yb8.1 z).1) (fun x j=>K x (n.subset j)) (fun h g G=>D _ g G) (fun h g t G ah=>C _ g t G ah)
    (fun h x g J R=>ae _ x g (s h x J) R) l Y).mono fun aC t q=>q.mono' (fun⟨h,X,U⟩=>⟨_,(Yag.1 (s h _ (Yaa X))).1,U⟩) (fun⟨aj,aw,M⟩=>?_)
   show u (L.length+(ifsK es f L (k+1)).length) t/\Met t (w.heap.size+1) (ifsK es f L (k+1))/\_;rw[r];refine⟨?_,aw,?_,?_⟩
   ·rw[Yal,←Nat.add_assoc];exact aj
   ·exact M.cell ac (show ¬(w.heap.size+1+1<lo\/w.heap.size+1+1=w.heap.size+1)by omega)
   ·exact M.cell Z (show ¬(w.heap.size<lo\/w.heap.size=w.heap.size+1)by omega))
 refine l2.mono fun aA w2 q=>q.mono (fun g ⟨_,_,p⟩=>p) (fun g p=>?_);have:=p.1;rw[ZqD]at this;rw[H];exact this
