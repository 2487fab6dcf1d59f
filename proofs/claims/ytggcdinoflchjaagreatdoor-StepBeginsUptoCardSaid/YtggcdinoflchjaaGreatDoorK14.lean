/- laws -/
import Derived.Test.YtggcdinoflchjaaGreatDoorK13
import Derived.RegionTactic
import Derived.Deep.DeepCutAuto
set_option maxRecDepth 100000
set_option maxHeartbeats 16000000
namespace Go.Proofs.YtggcdinoflchjaaGreatDoor
open Go.RowKit
def Ent.par (e:Ent):List Nat:=e.up.toList++e.lk
theorem YesNo.shift {n:Nat} {g h:Nat->World->Prop} {w:World} {e:Ending} (i:YesNo (fun w'=>∃ k,k<n/\h (k+1) w') (g (n+1)) e w):YesNo (fun w'=>∃ k,k<n+1/\h k w') (g (n+1)) e w:=by
 obtain ⟨b,c,f,a⟩:=i;exact ⟨b,c,fun j=>by obtain ⟨k,l,d⟩:=f j;exact ⟨k+1,by omega,d⟩,a⟩
theorem Zfq {A:Nat->Prop} {B:Nat->Nat} {ab W:Nat} {es:List Ent} {G:World} (K:Tab A G ab W B es) (H:Nat) (d:Array Value) (i:Nat) (e:Ent) (I:es[i]? = some e) (E L:Nat->World->Prop) (w:World) (q:∀ args w,(callFunc H args).run Tryz.prog w=.ok (.enter H args) w)
  (p:∀ k w',E k w'->Below G.heap.size G w') (t:E 0 w) (r:Zic B H d e.par E L) (h:e.lk.length<=9223372036854775807) :
  Calls Tryz.prog 110 #[.pointer (some ⟨B i,0,none⟩),.func (.func H) #[] d] w (YesNo (fun w'=>∃ k,k<e.par.length/\L k w') (E e.par.length)):=by
 obtain ⟨cls,up,l⟩:=e;obtain ⟨Y,Z,ac,sv,v,_,_,_,y⟩:=K.ent i _ I;have T:=Hd v;have aa:=Hd y;have U:=Hd p;have z:=(v.below (p 0 w t)).cell 9 rfl;have u:=(v.below (p 0 w t)).cell 10 rfl;cases up with
 | none=>
  have f:(Ent.mk cls none l).par=l:=rfl;rw [f] at r ⊢;have D:w.cell? ⟨B i,9,none⟩=some (.pointer none):=z;have Q:w.cell? ⟨B i,10,none⟩=some sv:=u;have J:=Hd (ZeW (B:=B) (A:=A) H d l sv E L w q (fun k w' n=>(EntP.st B).below y (p k w' n)) t r h);clear v y p z u q t r h f I K;go_enter Tryz.func110,Tryz.ntmps110
  go_wp2_with fail
  refine J.o.mono ?_;rintro e C ⟨b,rfl,m,c⟩;have g:=Hd m;have a:=Hd c;clear m c;cases b
  ·have j:=Hd (a.o rfl);clear g a;go_wp2;go_ret;exact ⟨false,rfl,(fun n=>by cases n),fun _=>j.o⟩
  ·have j:=Hd (g.o rfl);clear g a;go_wp2;go_ret;exact ⟨true,rfl,fun _=>j.o,(fun n=>by cases n)⟩
 | some O=>
  have f:(Ent.mk cls (some O) l).par=O :: l:=rfl;rw [f] at r ⊢;have D:w.cell? ⟨B i,9,none⟩=some (.pointer (some ⟨B O,0,none⟩)):=z;have N:=Hd (r 0 O w rfl t);have J:Hid (∀ w',E 1 w'->Calls Tryz.prog 170 #[sv,.func (.func H) #[] d] w' (YesNo (fun w'=>∃ k,k<l.length+1/\L k w') (E (l.length+1)))):=Hd (fun w' R=>
   (ZeW (B:=B) (A:=A) H d l sv (fun k=>E (k+1)) (fun k=>L (k+1)) w' q (fun k s n=>(EntP.st B).below y (p (k+1) s n)) R (fun k x s X V=>r (k+1) x s (by simpa using X) V) h).mono (fun e s n=>n.shift))
  have P:=Hd q;clear v y p z u q t r h f I K;rw [YaI];have q:=P.o;go_enter Tryz.func110,Tryz.ntmps110
  go_wp2_with fail
  refine N.o.mono ?_;rintro e C ⟨b,rfl,m,c⟩;have g:=Hd m;have a:=Hd c;clear m c q D;cases b
  ·have F:=Hd (a.o rfl);have M:C.cell? ⟨B i,10,none⟩=some sv:=(T.o.below (U.o 1 C F.o)).cell 10 rfl;clear g a
   go_wp2_with fail
   refine (J.o C F.o).mono ?_;rintro e w2 ⟨b,rfl,m,c⟩;have g:=Hd m;have a:=Hd c;clear m c M;cases b
   ·have j:=Hd (a.o rfl);clear g a;go_wp2;go_ret;exact ⟨false,rfl,(fun n=>by cases n),fun _=>j.o⟩
   ·have j:=Hd (g.o rfl);clear g a;go_wp2;go_ret;exact ⟨true,rfl,fun _=>j.o,(fun n=>by cases n)⟩
  ·have j:=Hd (g.o rfl);clear g a;go_wp2;go_ret;exact ⟨true,rfl,fun _=>⟨0,Nat.succ_pos _,j.o⟩,(fun n=>by cases n)⟩
def lkOf (es:List Ent) (i:Nat):List Nat:=match es[i]? with|some e=>e.lk|none=>[]
theorem Zba {es:List Ent} {i:Nat} {e:Ent} (a:es[i]? = some e):lkOf es i=e.lk:=by unfold lkOf;rw [a]
def vis (es:List Ent):Nat->List Nat->List Nat->List Nat
 | 0,_,_=>[]
 | f+1,b,l=>l.foldl (fun a d=>if (b++a).contains d then a else a++d :: vis es f (b++a++[d]) (lkOf es d)) []
def Zbq (es:List Ent) (f:Nat) (b a:List Nat) (d:Nat):List Nat:=if (b++a).contains d then a else a++d :: vis es f (b++a++[d]) (lkOf es d)
def accV (es:List Ent) (f:Nat) (a l:List Nat) (k:Nat):List Nat:=(l.take k).foldl (Zbq es f a) []
theorem ZeP (es:List Ent) (f:Nat) (a l:List Nat):vis es (f+1) a l=accV es f a l l.length:=by
 unfold accV;rw [YaJ];rfl
theorem Zly (es:List Ent) (f:Nat) (a l:List Nat):accV es f a l 0=[]:=rfl
theorem ZgZ (es:List Ent) (f:Nat) (a l:List Nat) (k d:Nat) (b:l[k]? = some d):accV es f a l (k+1)=Zbq es f a (accV es f a l k) d:=by
 unfold accV;rw [YaL,b,Ya8];rfl
theorem ZnI (es:List Ent) (f:Nat) (b a:List Nat) (d:Nat):a <+: Zbq es f b a d:=by
 unfold Zbq;split
 ·exact List.prefix_rfl
 ·exact List.prefix_append _ _
theorem Zd8 (es:List Ent) (f:Nat) (b:List Nat):∀ (l a:List Nat),a <+: l.foldl (Zbq es f b) a
 | [],_=>List.prefix_rfl
 | d :: l,a=>(ZnI es f b a d).trans (Zd8 es f b l _)
theorem Zgd (es:List Ent) (f:Nat) (a l:List Nat) (k:Nat):accV es f a l k <+: vis es (f+1) a l:=by
 rw [ZeP];unfold accV;rw [YaJ]
 conv=>rhs;rw [←Ya1 k l,Ya8]
 exact Zd8 es f a _ _
def Deep (es:List Ent):Nat->List Nat->Prop
 | 0,l=>l=[]
 | f+1,l=>∀ d ∈ l,∃ e,es[d]? = some e/\Deep es f e.lk
theorem ZiQ {α:Type} {a b:List α} (f:a <+: b) {k:Nat} {x:α} (d:a[k]? = some x):b[k]? = some x:=by
 obtain ⟨c,rfl⟩:=f;rw [YaP (Yag.1 d).1];exact d
theorem ZqQ {es:List Ent} {f:Nat} {a l:List Nat} {k d:Nat} (j:l[k]? = some d) (i:(a++accV es f a l k).contains d=false) :
  (vis es (f+1) a l)[(accV es f a l k).length]? = some d/\(∀ (c x:Nat),(vis es f (a++accV es f a l k++[d]) (lkOf es d))[c]? = some x->(vis es (f+1) a l)[(accV es f a l k).length+1+c]? = some x)/\
  accV es f a l (k+1)=accV es f a l k++d :: vis es f (a++accV es f a l k++[d]) (lkOf es d):=by
 have b:accV es f a l (k+1)=accV es f a l k++d :: vis es f (a++accV es f a l k++[d]) (lkOf es d):=by
  rw [ZgZ es f a l k d j];unfold Zbq;rw [i];rfl
 have g:=Zgd es f a l (k+1);refine ⟨ZiQ g ?_,fun c x h=>ZiQ g ?_,b⟩
 ·rw [b,YaH (Yac _),Yca];rfl
 ·rw [b,YaH (by omega),show (accV es f a l k).length+1+c - (accV es f a l k).length=c+1 from by omega,Yb0];exact h
theorem Zlx {es:List Ent} {f:Nat} {a l:List Nat} {k d:Nat} (c:l[k]? = some d) (b:(a++accV es f a l k).contains d=true):accV es f a l (k+1)=accV es f a l k:=by
 rw [ZgZ es f a l k d c];unfold Zbq;rw [b];rfl
theorem ZcI:∀ (n:Nat) (l:List Nat),l.Nodup->(∀ x ∈ l,x<n)->l.length<=n
 | 0,l,_,d=>by
  cases l with
  | nil=>simp
  | cons x l=>exact absurd (d x Yal) (YbO _)
 | n+1,l,c,d=>by
  have h:=ZcI n (l.erase n) (c.erase n) (fun x b=>by
   have f:=d x (List.mem_of_mem_erase b);have g:x ≠ n:=(c.mem_erase_iff.1 b).1;omega)
  have f:=List.length_erase_le (a:=n) (l:=l);have g:l.length<=(l.erase n).length+1:=by
   rw [List.length_erase];split <;> omega
  omega
theorem Zem (es:List Ent):∀ (f:Nat) (g l:List Nat),g.Nodup->(g++vis es f g l).Nodup
 | 0,g,l,k=>by simpa [vis] using k
 | f+1,g,l,k=>by
  have q:∀ (l c:List Nat),(g++c).Nodup->(g++l.foldl (Zbq es f g) c).Nodup:=by
   intro l;induction l with
   | nil=>intro c h;exact h
   | cons d l s=>
    intro c h;refine s _ ?_;unfold Zbq;split
    ·exact h
    ·rename_i m
     have i:d ∉ g++c:=by simpa using m
     have r:(g++c++[d]).Nodup:=by
      rw [Yb6];refine ⟨h,by simp,fun a j b n=>?_⟩;have:b=d:=by simpa using n
      subst this;intro e;subst e;exact i j
     have p:=Zem es f _ (lkOf es d) r
     simpa [YaW] using p
  have:=q l [] (by simpa using k);rw [ZeP];unfold accV;rw [YaJ];exact this
def Met (w:World) (a:Nat) (b:List Nat):Prop:=
 ∃ m f c,MapF Tryz.prog 3 (.int .i64 0) w a m f c/\m<=b.length/\∀ i:Nat,f (.int .i64 i)=.int .i64 (if b.contains i then 1 else 0)
theorem Met.keep {S:Nat->Prop} {w w':World} {a:Nat} {i:List Nat} (j:Met w a i) (b:Only S w w') (h:¬ S a):Met w' a i:=by
 obtain ⟨m,f,k,c,d,g⟩:=j;exact ⟨m,f,k,c.keep b h,d,g⟩
theorem Met.lt {w:World} {a:Nat} {c:List Nat} (b:Met w a c):a<w.heap.size:=let ⟨_,_,_,d,_⟩:=b;d.lt
theorem Met.new (w:World):Met (w.alloc (.map #[] 0)) w.heap.size []:=⟨0,_,_,MapF.new _ _ _ _,Yac _,fun i=>by simp⟩
theorem Zht:Maps.Keyed Tryz.prog 3:=Maps.int_keyed Tryz.underlying3
theorem ZmG (i:Nat) (a:i<=9223372036854775807):keyOf Tryz.prog 3 (.int .i64 i)=some (.int .i64 i):=
 Maps.keyOf_int_mk Tryz.underlying3 (WalkArith.wf_i64 (by omega))
theorem Zpe (w:World):(zeroValue 3).run Tryz.prog w=.ok (.int .i64 0) w:=by kernel_rfl
theorem Met.look {w:World} {a:Nat} {g:List Nat} (h:Met w a g) (i:Nat) (b:i<=9223372036854775807) :
  (Instr.lookup 197 (.map (some a)) (.int .i64 i) false).run Tryz.prog w=.ok (.int .i64 (if g.contains i then 1 else 0)) w:=by
 obtain ⟨m,f,k,d,j,c⟩:=h;rw [d.look Zht Tryz.underlying197 (Zpe w) (ZmG i b),c]
theorem Met.put {w:World} {a:Nat} {c:List Nat} (s:Met w a c) (i:Nat) (j:i<=9223372036854775807) (u:c.length<9223372036854775807) :
  (Instr.mapUpdate 197 (.map (some a)) (.int .i64 i) (.int .i64 1)).run Tryz.prog w=.ok () (putW Tryz.prog 197 (.map (some a)) (.int .i64 i) (.int .i64 1) w)/\
   Met (putW Tryz.prog 197 (.map (some a)) (.int .i64 i) (.int .i64 1) w) a (c++[i])/\Only (fun k=>k=a) w (putW Tryz.prog 197 (.map (some a)) (.int .i64 i) (.int .i64 1) w)/\
   (putW Tryz.prog 197 (.map (some a)) (.int .i64 i) (.int .i64 1) w).heap.size=w.heap.size:=by
 obtain ⟨m,f,g,r,t,q⟩:=s;obtain ⟨p,h,l,n⟩:=r.put Zht Tryz.underlying197 (by unfold maxLen;omega) (val:=.int .i64 1) (ZmG i j);refine ⟨p,⟨_,_,_,h,?_,fun d=>?_⟩,l,n⟩
 ·rw [Yak];split <;> simp <;> omega
 ·by_cases e:d=i
  ·subst e;rw [ZbX];simp
  ·have b:(Lit.int .i64 (d:Int)) ≠ .int .i64 (i:Int):=by
    intro g
    injection g with _ g
    omega
   rw [Za8 _ _ b,q];have:(c++[i]).contains d=c.contains d:=by simp [e]
   rw [this]
theorem Zjm {A:Nat->Prop} {B:Nat->Nat} {O K:Nat} {es:List Ent} {c:World} (G:Tab A c O K B es) (I:Nat) (a:Array Value) (g i:Nat) (e:Ent) (C:es[i]? = some e) (u J:Nat->World->Prop) (w:World) (E:Below c.heap.size c w)
  (s:∀ k w',u k w'->Below c.heap.size c w')
  (y:u 0 ((w.alloc (.cells #[.map (some g)] 197)).alloc (.cells #[.func (.func I) #[] a] 121)))
  (D:Zic B 246 #[.pointer (some ⟨w.heap.size,0,none⟩),.pointer (some ⟨w.heap.size+1,0,none⟩)] e.lk u J) (d:e.lk.length<=9223372036854775807) :
  Calls Tryz.prog 225 #[.pointer (some ⟨B i,0,none⟩),.map (some g),.func (.func I) #[] a] w (YesNo (fun w'=>∃ k,k<e.lk.length/\J k w') (u e.lk.length)):=by
 have x:∀ (H:Fn) (first l:Array Value) (w:World),(Instr.makeFunc H first l).run Tryz.prog w=.ok (.func H first l) w:=fun _ _ _ _=>rfl
 obtain ⟨L,N,P,sv,t,_,_,_,z⟩:=G.ent i _ C;have F:=Hd (ZeW (B:=B) (A:=A) 246 _ e.lk sv u J _ (Zai Tryz.func246 (by kernel_rfl) rfl) (fun k w' r=>(EntP.st B).below z (s k w' r)) y D d);have h:Below c.heap.size c ((w.alloc (.cells #[.map (some g)] 197)).alloc (.cells #[.func (.func I) #[] a] 121)):=Zaa (Zaa E _) _;have q:((w.alloc (.cells #[.map (some g)] 197)).alloc (.cells #[.func (.func I) #[] a] 121)).cell? ⟨B i,10,none⟩=some sv:=(t.below h).cell 10 rfl;generalize e.lk.length=n at F ⊢;clear t z s y D d C G E h;go_enter Tryz.func225,Tryz.ntmps225
 go_wp2_with fail
 refine F.o.mono ?_;rintro e M ⟨b,rfl,v,j⟩;have p:=Hd v;have f:=Hd j;clear v j q x;cases b
 ·have m:=Hd (f.o rfl);clear p f;go_wp2;go_ret;exact ⟨false,rfl,(fun r=>by cases r),fun _=>m.o⟩
 ·have m:=Hd (p.o rfl);clear p f;go_wp2;go_ret;exact ⟨true,rfl,fun _=>m.o,(fun r=>by cases r)⟩
def Zph (B:Nat->Nat) (g:Nat) (a:Array Value) (b f c d:Nat) (h i:World->Prop) (w:World):Prop:=
 w.cell? ⟨f,0,none⟩=some (.map (some b))/\w.cell? ⟨c,0,none⟩=some (.func (.func g) #[] a)/\
  Calls Tryz.prog 225 #[.pointer (some ⟨B d,0,none⟩),.map (some b),.func (.func g) #[] a] w (YesNo h i)
theorem Zmi {A:Nat->Prop} {B:Nat->Nat} {ao ai:Nat} {es:List Ent} {O:World} (R:Tab A O ao ai B es) (M:Nat) (f:Array Value) (a m v d:Nat) (U:List Nat) (ac ad:World->Prop) (w:World) (z:∀ args w,(callFunc M args).run Tryz.prog w=.ok (.enter M args) w)
  (Q:d<es.length) (X:es.length<=1048576) (L:U.length<9223372036854775807) (x:Below O.heap.size O w) (t:Met w a U) (s:v ≠ a)
  (J:w.cell? ⟨m,0,none⟩=some (.map (some a))) (P:w.cell? ⟨v,0,none⟩=some (.func (.func M) #[] f))
  (q:U.contains d=true->∀ w',Below w.heap.size w w'->ad w')
  (c:U.contains d=false->∀ w',Only (fun k=>k=a) w w'->Met w' a (U++[d])->Calls Tryz.prog M (#[entV B d]++f) w' (YesNo ac (Zph B M f a m v d ac ad))) :
  Calls Tryz.prog 246 #[.pointer (some ⟨B d,0,none⟩),.pointer (some ⟨m,0,none⟩),.pointer (some ⟨v,0,none⟩)] w (YesNo ac ad):=by
 obtain ⟨ak,am,ap,sv,I,K⟩:=R.ent d es[d] (Yaa Q);clear K;have E:Below w.heap.size w w:=Yab _ _;have i:d<=9223372036854775807:=by omega
 cases u:U.contains d with
 | true=>
  have p:Hid (∀ W,Below w.heap.size w W->W.cell? ⟨m,0,none⟩=some (.map (some a))/\W.cell? ⟨B d,0,none⟩=some (.int .i64 d)/\(Instr.lookup 197 (.map (some a)) (.int .i64 d) false).run Tryz.prog W=.ok (.int .i64 1) W):=Hd (fun W h=>by
   have n:=Yad (S:=fun _=>False) h;refine ⟨n.cell J id,(I.below (x.trans (h.mono x.size))).cell 0 rfl,?_⟩;have:=(t.keep n id).look d i;rw [u] at this;exact this)
  have l:=Hd (q u);clear q c R Q X L x t s u z I J P i;obtain ⟨G,y,F⟩:=p.o w E;go_enter Tryz.func246,Tryz.ntmps246
  go_upto_region 1 with fail
  first
  | (go_region_held (fun W=>W.cell? ⟨m,0,none⟩=some (.map (some a))/\W.cell? ⟨B d,0,none⟩=some (.int .i64 d)/\(Instr.lookup 197 (.map (some a)) (.int .i64 d) false).run Tryz.prog W=.ok (.int .i64 1) W) ((refine p.o _ ?_;(repeat (first|(with_reducible exact Yab _ _)|(with_reducible assumption)|(with_reducible refine Zab ?_))))) (fail))
  | fail
  all_goals
   clear G y F;go_wp2;go_ret;exact ⟨false,rfl,(fun N=>by cases N),fun _=>l.o _ (by (repeat (first|(with_reducible exact Yab _ _)|(with_reducible refine Zab ?_))))⟩
 | false=>
  have p:Hid (∀ W,Below w.heap.size w W->W.cell? ⟨m,0,none⟩=some (.map (some a))/\W.cell? ⟨B d,0,none⟩=some (.int .i64 d)/\(Instr.lookup 197 (.map (some a)) (.int .i64 d) false).run Tryz.prog W=.ok (.int .i64 0) W):=Hd (fun W h=>by
   have n:=Yad (S:=fun _=>False) h;refine ⟨n.cell J id,(I.below (x.trans (h.mono x.size))).cell 0 rfl,?_⟩;have:=(t.keep n id).look d i;rw [u] at this;exact this)
  have aa:Hid (∀ W,Below w.heap.size w W->(Instr.mapUpdate 197 (.map (some a)) (.int .i64 d) (.int .i64 1)).run Tryz.prog W=.ok () (putW Tryz.prog 197 (.map (some a)) (.int .i64 d) (.int .i64 1) W)):=Hd (fun W h=>((t.keep (Yad (S:=fun _=>False) h) id).put d i L).1);have ab:Hid (∀ W,Below w.heap.size w W->(putW Tryz.prog 197 (.map (some a)) (.int .i64 d) (.int .i64 1) W).cell? ⟨v,0,none⟩=some (.func (.func M) #[] f)/\Calls Tryz.prog M (#[entV B d]++f) (putW Tryz.prog 197 (.map (some a)) (.int .i64 d) (.int .i64 1) W) (YesNo ac (Zph B M f a m v d ac ad))):=Hd (fun W h=>by
   have n:=Yad (S:=fun k=>k=a) h;obtain ⟨_,T,H,_⟩:=(t.keep (Yad (S:=fun _=>False) h) id).put d i L;exact ⟨H.cell (n.cell P s) s,c u _ (n.trans H) T⟩)
  have af:=Hd z;clear q c R Q X L x t s u z I J P i;obtain ⟨G,y,F⟩:=p.o w E;go_enter Tryz.func246,Tryz.ntmps246
  go_upto_region 1 with fail
  first
  | (go_region_held (fun W=>W.cell? ⟨m,0,none⟩=some (.map (some a))/\W.cell? ⟨B d,0,none⟩=some (.int .i64 d)/\(Instr.lookup 197 (.map (some a)) (.int .i64 d) false).run Tryz.prog W=.ok (.int .i64 0) W) ((refine p.o _ ?_;(repeat (first|(with_reducible exact Yab _ _)|(with_reducible assumption)|(with_reducible refine Zab ?_))))) (fail))
  | fail
  all_goals
   clear G y F
   go_upto_region 3 with fail
   obtain ⟨G,y,F⟩:=p.o _ (Zab (Zab E));have ag:=aa.o _ (Zab (Zab E));have V:IntKind.i64.wrap 1=1:=by decide
   go_region
   all_goals
    clear G y F ag V;have ae:=ab.o _ (Zab (Zab E));obtain ⟨Y,r⟩:=ae;have j:=Hd r;have z:=af.o;clear r p aa ab;generalize putW Tryz.prog 197 (.map (some a)) (.int .i64 d) (.int .i64 1) w.drew.drew=al at Y j ⊢
    go_wp2_with fail
    refine j.o.mono ?_;rintro aj w2 ⟨b,rfl,C,c⟩;have l:=Hd C;have g:=Hd c;clear z Y C c j;cases b with
    | true=>
     have D:=Hd (l.o rfl);clear l g;go_wp2;go_ret;exact ⟨true,rfl,fun _=>D.o,(fun N=>by cases N)⟩
    | false=>
     obtain ⟨ah,T,H⟩:=g.o rfl;have Z:=Hd H;clear l g H
     go_wp2_with fail
     refine Z.o.mono ?_;rintro aj aq ⟨b,rfl,C,c⟩;have l:=Hd C;have g:=Hd c;clear ah T C c Z;cases b
     ·have D:=Hd (g.o rfl);clear l g;go_wp2;go_ret;exact ⟨false,rfl,(fun N=>by cases N),fun _=>D.o⟩
     ·have D:=Hd (l.o rfl);clear l g;go_wp2;go_ret;exact ⟨true,rfl,fun _=>D.o,(fun N=>by cases N)⟩
def Zlv (B:Nat->Nat) (d:Nat) (a:Array Value) (lo:Nat) (L:List Nat) (c f:Nat->World->Prop):Prop:=
 ∀ (k x:Nat) (w:World),L[k]? = some x->c k w->Calls Tryz.prog d (#[entV B x]++a) w (fun e w'=>YesNo (f k) (c (k+1)) e w'/\Only (fun b=>b<lo) w w')
def Zlt (lo:Nat) (a:Nat->World->Prop):Prop:=∀ k w w',a k w->Only (fun b=>lo<=b) w w'->a k w'
theorem Zh6 {es:List Ent}:∀ (f:Nat) (p l:List Nat),Deep es f l->∀ x ∈ vis es f p l,x<es.length
 | 0,p,l,_,x,b=>by simp [vis] at b
 | f+1,p,l,t,x,b=>by
  rw [ZeP] at b;unfold accV at b;rw [YaJ] at b;have q:∀ (n a:List Nat),(∀ d ∈ n,∃ e,es[d]? = some e/\Deep es f e.lk)->(∀ i ∈ a,i<es.length)->∀ i ∈ n.foldl (Zbq es f p) a,i<es.length:=by
   intro n;induction n with
   | nil=>intro a _ g;exact g
   | cons d n u=>
    intro a m g;refine u _ (fun v r=>m v (Yap _ r)) ?_;unfold Zbq;split
    ·exact g
    ·obtain ⟨e,j,k⟩:=m d Yal;intro i s;rcases Yao.1 s with h|h
     ·exact g i h
     ·rcases Yav.1 h with c|c
      ·subst c;exact (Yag.1 j).1
      ·rw [Zba j] at c;exact Zh6 f _ _ k i c
  exact q l [] t (by simp) x b
theorem ZhK {f a b:List Nat} (d:(f++b).Nodup) (c:a <+: b):(f++a).Nodup:=by
 obtain ⟨g,rfl⟩:=c;rw [←YaW] at d;exact (Yb6.1 d).1
theorem Zmk {A:Nat->Prop} {B:Nat->Nat} {aX aL:Nat} {es:List Ent} {ac:World} (ag:Tab A ac aX aL B es) (aN:es.length<=1048576) (X:∀ (i:Nat) (e:Ent),es[i]? = some e->e.lk.length<=9223372036854775807) (R:Nat) (h:Array Value)
  (aJ:∀ args w,(callFunc R args).run Tryz.prog w=.ok (.enter R args) w) (lo g:Nat) (ay:lo<=g) :
  ∀ (f:Nat) (i:Nat) (e:Ent) (c:List Nat) (D aj:Nat->World->Prop) (w:World),es[i]? = some e->Deep es f e.lk->c.Nodup->(∀ x ∈ c,x<es.length)->(∀ k w',D k w'->Below ac.heap.size ac w')->Zlt lo D->
   Zlv B R h lo (vis es f c e.lk) D aj->D 0 w->Met w g c->
   Calls Tryz.prog 225 #[.pointer (some ⟨B i,0,none⟩),.map (some g),.func (.func R) #[] h] w
    (YesNo (fun w'=>∃ k,k<(vis es f c e.lk).length/\aj k w') (fun w'=>D (vis es f c e.lk).length w'/\Met w' g (c++vis es f c e.lk)/\Only (fun b=>b<lo\/b=g) w w')):=by
 intro f;induction f with
 | zero=>
  intro i e c D aj w M P Y F y m al E p;have ak:e.lk=[]:=P;have J:∀ (a b:Obj),Only (fun k=>k<lo\/k=g) w ((w.alloc a).alloc b):=fun a b=>((Yan _ w).alloc a).alloc b
  have u:∀ (a b:Obj),Only (fun k=>lo<=k) w ((w.alloc a).alloc b):=fun a b=>((Yan _ w).alloc a).alloc b
  have C:∀ (a b:Obj),Only (fun _=>False) w ((w.alloc a).alloc b):=fun a b=>((Yan _ w).alloc a).alloc b
  have r:=Zjm ag R h g i e M (fun _ w'=>D 0 w'/\Met w' g c/\Only (fun b=>b<lo\/b=g) w w') (fun k w'=>aj k w') w (y 0 w E) (fun k w' r=>y 0 w' r.1) ⟨m _ _ _ E (u _ _),p.keep (C _ _) id,J _ _⟩
   (fun k x w' j _=>by rw [ak] at j;simp at j) (X i e M)
  rw [ak] at r;rw [ak];refine r.mono fun aT w' q=>q.mono (fun l q=>?_) (fun l q=>?_)
  ·obtain ⟨k,aI,_⟩:=q;simp at aI
  ·exact ⟨q.1,by simpa [vis] using q.2.1,q.2.2⟩
 | succ f aQ=>
  intro i e c D aj w M P Y F y m al E p;have J:∀ (a b:Obj),Only (fun k=>k<lo\/k=g) w ((w.alloc a).alloc b):=fun a b=>((Yan _ w).alloc a).alloc b
  have u:∀ (a b:Obj),Only (fun k=>lo<=k) w ((w.alloc a).alloc b):=fun a b=>((Yan _ w).alloc a).alloc b
  have C:∀ (a b:Obj),Only (fun _=>False) w ((w.alloc a).alloc b):=fun a b=>((Yan _ w).alloc a).alloc b
  have aW:=p.lt;have aV:lo<=w.heap.size:=by omega
  have V:=Zh6 (f+1) c e.lk P;have U:(c++vis es (f+1) c e.lk).Nodup:=Zem es (f+1) c e.lk Y;have r:=Zjm ag R h g i e M
   (fun k w'=>D (accV es f c e.lk k).length w'/\Met w' g (c++accV es f c e.lk k)/\Only (fun b=>b<lo\/b=g) w w'/\w'.cell? ⟨w.heap.size,0,none⟩=some (.map (some g))/\w'.cell? ⟨w.heap.size+1,0,none⟩=some (.func (.func R) #[] h))
   (fun _ w'=>∃ k,k<(vis es (f+1) c e.lk).length/\aj k w') w (y 0 w E) (fun k w' r=>y _ w' r.1)
   ⟨m _ _ _ E (u _ _),by rw [Zly,Ya2];exact p.keep (C _ _) id,J _ _,by simp,by simp⟩
   (fun k d w' j ⟨af,T,az,ao,ad⟩=>by
    obtain ⟨K,I,aq⟩:=P d (Yaf j);have aC:d<es.length:=(Yag.1 I).1;have G:=Zgd es f c e.lk k;have Z:(c++accV es f c e.lk k).Nodup:=ZhK U G;have O:∀ x ∈ c++accV es f c e.lk k,x<es.length:=fun x j=>by
     rcases Yao.1 j with z|z
     ·exact F x z
     ·exact V x (G.subset z)
    have aM:=ZcI es.length _ Z O;refine Zmi ag R h g w.heap.size (w.heap.size+1) d (c++accV es f c e.lk k) _ _ w' aJ aC aN (by omega) (y _ w' af) T (by omega) ao ad (fun ap l t=>?_) (fun ap ar Q aD=>?_)
    ·have n:=Yad (S:=fun _=>False) t;show D (accV es f c e.lk (k+1)).length l/\Met l g (c++accV es f c e.lk (k+1))/\_
     rw [Zlx j ap];exact ⟨m _ _ _ af (Yad t),T.keep n id,az.then (Yad (S:=fun _=>False) t) (fun _ _ r=>r.elim),n.cell ao id,n.cell ad id⟩
    ·obtain ⟨aw,ae,ab⟩:=ZqQ j ap;have ax:D (accV es f c e.lk k).length ar:=m _ _ _ af (Q.mono (fun b _ r=>by subst r;exact ay));have aB:(accV es f c e.lk k).length<(vis es (f+1) c e.lk).length:=(Yag.1 aw).1;have W:accV es f c e.lk k++[d] <+: vis es (f+1) c e.lk:=by
      have:=Zgd es f c e.lk (k+1);rw [ab] at this;exact (show accV es f c e.lk k++[d] <+: accV es f c e.lk k++d :: _ from ⟨_,by rw [YaW];rfl⟩).trans this
     rw [Zba I] at ae ab;refine (al _ d ar aw ax).mono fun aZ w2 q=>?_
     obtain ⟨⟨b,aO,aK,aE⟩,n⟩:=q;have v:Only (fun b=>b<lo\/b=g) w' w2:=(Q.mono (fun b _ r=>Or.inr r)).trans (n.mono (fun b _ r=>Or.inl r));have aF:=v.cell ao (show ¬ (w.heap.size<lo\/w.heap.size=g) by omega);have aA:=v.cell ad (show ¬ (w.heap.size+1<lo\/w.heap.size+1=g) by omega);refine ⟨b,aO,fun ah=>⟨_,aB,aK ah⟩,fun ah=>⟨aF,aA,?_⟩⟩;refine (aQ d K (c++accV es f c e.lk k++[d]) (fun N=>D ((accV es f c e.lk k).length+1+N)) (fun N=>aj ((accV es f c e.lk k).length+1+N)) w2 I aq (by rw [YaW];exact ZhK U W)
      (fun x j=>by
       rw [YaW] at j;rcases Yao.1 j with z|z
       ·exact F x z
       ·exact V x (W.subset z))
      (fun N s aa=>y _ s aa) (fun N s aR aa aP=>m _ s aR aa aP) (fun N x s av H=>al _ x s (ae N x av) H) (aE ah) (aD.keep n (show ¬ g<lo by omega))).mono fun aY s q=>?_
     obtain ⟨b3,aH,aG,ai⟩:=q;refine ⟨b3,aH,fun L=>?_,fun L=>?_⟩
     ·obtain ⟨N,H,au⟩:=aG L;exact ⟨_,(Yag.1 (ae N _ (Yaa H))).1,au⟩
     ·obtain ⟨aU,aS,am⟩:=ai L;show D (accV es f c e.lk (k+1)).length s/\Met s g (c++accV es f c e.lk (k+1))/\_
      rw [ab];refine ⟨?_,?_,az.trans (v.mono fun b _ r=>r) |>.trans am,am.cell aF (show ¬ (w.heap.size<lo\/w.heap.size=g) by omega),am.cell aA (show ¬ (w.heap.size+1<lo\/w.heap.size+1=g) by omega)⟩
      ·rw [Yak,YaI,show (accV es f c e.lk k).length+((vis es f (c++accV es f c e.lk k++[d]) K.lk).length+1)=(accV es f c e.lk k).length+1+(vis es f (c++accV es f c e.lk k++[d]) K.lk).length from by omega];exact aU
      ·have:c++(accV es f c e.lk k++d :: vis es f (c++accV es f c e.lk k++[d]) K.lk)=c++accV es f c e.lk k++[d]++vis es f (c++accV es f c e.lk k++[d]) K.lk:=by simp
       rw [this];exact aS)
   (X i e M)
  refine r.mono fun aT w' q=>q.mono (fun l q=>q.choose_spec.2) (fun l q=>?_)
  rw [ZeP];exact ⟨q.1,q.2.1,q.2.2.1⟩
def ifsL (es:List Ent) (f:Nat) (L:List Nat):List Nat:=L.foldl (fun a d=>a++vis es f a (lkOf es d)) []
def ZcO (es:List Ent) (f:Nat) (L:List Nat):List Nat:=L++ifsL es f L
def ifsK (es:List Ent) (f:Nat) (L:List Nat) (k:Nat):List Nat:=(L.take k).foldl (fun a d=>a++vis es f a (lkOf es d)) []
theorem Zor (es:List Ent) (f:Nat) (L:List Nat):ifsK es f L L.length=ifsL es f L:=by unfold ifsK ifsL;rw [YaJ]
theorem Zmj {es:List Ent} {f:Nat} {L:List Nat} {k d:Nat} (a:L[k]? = some d):ifsK es f L (k+1)=ifsK es f L k++vis es f (ifsK es f L k) (lkOf es d):=by
 unfold ifsK;rw [YaL,a,Ya8];rfl
theorem ZdD (es:List Ent) (f:Nat):∀ (l a:List Nat),a <+: l.foldl (fun a d=>a++vis es f a (lkOf es d)) a
 | [],_=>List.prefix_rfl
 | _ :: l,_=>(List.prefix_append _ _).trans (ZdD es f l _)
theorem Zjl (es:List Ent) (f:Nat) (L:List Nat) (k:Nat):ifsK es f L k <+: ifsL es f L:=by
 unfold ifsK ifsL
 conv=>rhs;rw [←Ya1 k L,Ya8]
 exact ZdD es f _ _
theorem Zhp {es:List Ent} {f:Nat} {L:List Nat} (l:∀ d ∈ L,∃ e,es[d]? = some e/\Deep es f e.lk):(ifsL es f L).Nodup/\∀ x ∈ ifsL es f L,x<es.length:=by
 have m:∀ (h a:List Nat),(∀ d ∈ h,∃ e,es[d]? = some e/\Deep es f e.lk)->a.Nodup->(∀ x ∈ a,x<es.length)->
   (h.foldl (fun a d=>a++vis es f a (lkOf es d)) a).Nodup/\∀ x ∈ h.foldl (fun a d=>a++vis es f a (lkOf es d)) a,x<es.length:=by
  intro h;induction h with
  | nil=>intro a _ g c;exact ⟨g,c⟩
  | cons d h q=>
   intro a i g c;obtain ⟨e,j,p⟩:=i d Yal;refine q _ (fun r k=>i r (Yap _ k)) (Zem es f a _ g) (fun x n=>?_);rcases Yao.1 n with b|b
   ·exact c x b
   ·rw [Zba j] at b;exact Zh6 f _ _ p x b
 exact m L [] l Yb7 (by simp)
theorem Zlw {B:Nat->Nat} (s:Nat) (c:Array Value) (l m k d:Nat) (r t:World->Prop) (w:World)
  (p:w.cell? ⟨m,0,none⟩=some (.map (some l))) (n:w.cell? ⟨k,0,none⟩=some (.func (.func s) #[] c))
  (i:Calls Tryz.prog 225 #[.pointer (some ⟨B d,0,none⟩),.map (some l),.func (.func s) #[] c] w (YesNo r t)) :
  Calls Tryz.prog 231 #[.pointer (some ⟨B d,0,none⟩),.pointer (some ⟨m,0,none⟩),.pointer (some ⟨k,0,none⟩)] w (YesNo r t):=by
 have q:=Hd i;clear i;go_enter Tryz.func231,Tryz.ntmps231
 go_wp2_with fail
 refine q.o.mono ?_;rintro u v ⟨b,rfl,j,f⟩;have g:=Hd j;have a:=Hd f;clear p n j f q;cases b
 ·have h:=Hd (a.o rfl);clear g a;go_wp2;go_ret;exact ⟨false,rfl,(fun i=>by cases i),fun _=>h.o⟩
 ·have h:=Hd (g.o rfl);clear g a;go_wp2;go_ret;exact ⟨true,rfl,fun _=>h.o,(fun i=>by cases i)⟩
noncomputable def abvW (b:Nat) (a:Array Value) (w:World):World:=((w.alloc (.cells #[.func (.func b) #[] a] 121)).alloc (.map #[] 0)).alloc (.cells #[.map (some (w.heap.size+1))] 197)
theorem ZjK (p:Nat) (f:Array Value) (k:Value) (q u:World->Prop) (w:World)
  (i:Calls Tryz.prog 125 #[k,.func (.func p) #[] f] (abvW p f w) (YesNo q (fun n=>
   Calls Tryz.prog 125 #[k,.func (.func 231) #[] #[.pointer (some ⟨w.heap.size+1+1,0,none⟩),.pointer (some ⟨w.heap.size,0,none⟩)]] n (YesNo q u)))) :
  Calls Tryz.prog 192 #[k,.func (.func p) #[] f] w (YesNo q u):=by
 have s:∀ (l:Fn) (first j:Array Value) (w:World),(Instr.makeFunc l first j).run Tryz.prog w=.ok (.func l first j) w:=fun _ _ _ _=>rfl
 have m:=@run_makeMap Tryz.prog;unfold abvW at i;have t:=Hd i;clear i;go_enter Tryz.func192,Tryz.ntmps192
 go_upto_region 2 with fail
 clear m
 go_wp2_with fail
 refine t.o.mono ?_;rintro r x ⟨b,rfl,h,d⟩;have g:=Hd h;have a:=Hd d;clear h d t;cases b
 ·have c:=Hd (a.o rfl);clear g a
  go_wp2_with fail
  refine c.o.mono ?_;rintro r v ⟨b,rfl,h,d⟩;have g:=Hd h;have a:=Hd d;clear h d c;cases b
  ·have c:=Hd (a.o rfl);clear g a;go_wp2;go_ret;exact ⟨false,rfl,(fun i=>by cases i),fun _=>c.o⟩
  ·have c:=Hd (g.o rfl);clear g a;go_wp2;go_ret;exact ⟨true,rfl,fun _=>c.o,(fun i=>by cases i)⟩
 ·have c:=Hd (g.o rfl);clear g a;go_wp2;go_ret;exact ⟨true,rfl,fun _=>c.o,(fun i=>by cases i)⟩
theorem ZgY {A:Nat->Prop} {B:Nat->Nat} {aC aw:Nat} {es:List Ent} {F:World} (G:Tab A F aC aw B es) (am:es.length<=1048576) (ae:∀ (i:Nat) (e:Ent),es[i]? = some e->e.lk.length<=9223372036854775807) (c:Nat) (a:Array Value)
  (Q:∀ args w,(callFunc c args).run Tryz.prog w=.ok (.enter c args) w) (lo f:Nat) (o:Option Nat) (L:List Nat) (Z:Zdw es L o) (V:∀ d ∈ L,∃ e,es[d]? = some e/\Deep es f e.lk) (t O:Nat->World->Prop) (w:World) (az:lo<=w.heap.size)
  (E:∀ k w',t k w'->Below F.heap.size F w') (v:Zlt lo t) (Y:Zlv B c a lo (ZcO es f L) t O) (aq:t 0 w) :
  Calls Tryz.prog 192 #[ptrV B o,.func (.func c) #[] a] w (YesNo (fun w'=>∃ k,k<(ZcO es f L).length/\O k w') (t (ZcO es f L).length)):=by
 have D:(ZcO es f L).length=L.length+(ifsL es f L).length:=by unfold ZcO;rw [Yak]
 have au:Only (fun b=>lo<=b) w (abvW c a w):=(((Yan _ w).alloc _).alloc _).alloc _;have ai:(abvW c a w).cell? ⟨w.heap.size+1+1,0,none⟩=some (.map (some (w.heap.size+1))):=by
  have r:=(Box.new ((w.alloc (.cells #[.func (.func c) #[] a] 121)).alloc (.map #[] 0)) #[.map (some (w.heap.size+1))] 197).cell 0 rfl;have e:((w.alloc (.cells #[.func (.func c) #[] a] 121)).alloc (.map #[] 0)).heap.size=w.heap.size+1+1:=by simp
  rw [e] at r;exact r
 have ar:(abvW c a w).cell? ⟨w.heap.size,0,none⟩=some (.func (.func c) #[] a):=
  ((Box.new w #[.func (.func c) #[] a] 121).below (Zaa (Zaa (Yab _ _) _) _)).cell 0 rfl
 have ap:Met (abvW c a w) (w.heap.size+1) []:=by
  have W:=Met.new (w.alloc (.cells #[.func (.func c) #[] a] 121));have ak:(w.alloc (.cells #[.func (.func c) #[] a] 121)).heap.size=w.heap.size+1:=by simp
  rw [ak] at W;exact W.keep ((Yan (fun _=>False) _).alloc _) id
 obtain ⟨y,X⟩:=Zhp V;refine ZjK c a _ _ _ w ?_;have ah:=ZeM G c a L o (fun k w'=>t k w'/\Only (fun b=>b<lo) (abvW c a w) w') (fun k w'=>O k w') (abvW c a w) Q Z (fun k w' m=>E k w' m.1) ⟨v 0 _ _ aq au,Yan _ _⟩
  (fun k x w' j l=>(Y k x w' (by unfold ZcO;rw [YaP (Yag.1 j).1];exact j) l.1).mono fun e ay r=>r.1.mono' (fun m=>m) (fun m=>⟨m,l.2.trans r.2⟩))
 refine ah.mono fun e w' r=>r.mono (fun K ⟨k,aB,aj⟩=>⟨k,by omega,aj⟩) (fun K ⟨ab,n⟩=>?_)
 have al:=n.cell ai (show ¬ w.heap.size+1+1<lo by omega);have ao:=n.cell ar (show ¬ w.heap.size<lo by omega);have M:=ap.keep n (show ¬ w.heap.size+1<lo by omega);have l2:=ZeM G 231 #[.pointer (some ⟨w.heap.size+1+1,0,none⟩),.pointer (some ⟨w.heap.size,0,none⟩)] L o
  (fun k w'=>t (L.length+(ifsK es f L k).length) w'/\Met w' (w.heap.size+1) (ifsK es f L k)/\w'.cell? ⟨w.heap.size+1+1,0,none⟩=some (.map (some (w.heap.size+1)))/\w'.cell? ⟨w.heap.size,0,none⟩=some (.func (.func c) #[] a))
  (fun _ w'=>∃ k,k<(ZcO es f L).length/\O k w') K (Zai Tryz.func231 (by kernel_rfl) rfl) Z (fun k w' m=>E _ w' m.1) ⟨ab,M,al,ao⟩
  (fun k d w' j ⟨l,ac,T,ad⟩=>by
   obtain ⟨J,C,I⟩:=V d (Yaf j);have p:=Zjl es f L k;have s:=Zmj (es:=es) (f:=f) j;rw [Zba C] at s;have z:=Zjl es f L (k+1);rw [s] at z;have q:∀ (g x:Nat),(vis es f (ifsK es f L k) J.lk)[g]? = some x->(ZcO es f L)[L.length+(ifsK es f L k).length+g]? = some x:=fun g x l=>by
    unfold ZcO;rw [YaH (by omega)];refine ZiQ z ?_;rw [YaH (by omega),show L.length+(ifsK es f L k).length+g - L.length - (ifsK es f L k).length=g from by omega];exact l
   refine Zlw c a (w.heap.size+1) (w.heap.size+1+1) w.heap.size d _ _ w' T ad ?_;refine (Zmk G am ae c a Q lo (w.heap.size+1) (by omega) f d J (ifsK es f L k) (fun g=>t (L.length+(ifsK es f L k).length+g)) (fun g=>O (L.length+(ifsK es f L k).length+g)) w' C I
    (by obtain ⟨aE,af⟩:=p;rw [←af] at y;exact (Yb6.1 y).1) (fun x j=>X x (p.subset j)) (fun g h H=>E _ h H) (fun g h u H ag=>v _ h u H ag)
    (fun g x h P R=>Y _ x h (q g x P) R) l ac).mono fun aA u r=>r.mono' (fun ⟨g,U,N⟩=>⟨_,(Yag.1 (q g _ (Yaa U))).1,N⟩) (fun ⟨ax,av,aa⟩=>?_)
   show t (L.length+(ifsK es f L (k+1)).length) u/\Met u (w.heap.size+1) (ifsK es f L (k+1))/\_
   rw [s];refine ⟨?_,av,?_,?_⟩
   ·rw [Yak,←Nat.add_assoc];exact ax
   ·exact aa.cell T (show ¬ (w.heap.size+1+1<lo\/w.heap.size+1+1=w.heap.size+1) by omega)
   ·exact aa.cell ad (show ¬ (w.heap.size<lo\/w.heap.size=w.heap.size+1) by omega))
 refine l2.mono fun aD w2 r=>r.mono (fun h ⟨_,_,m⟩=>m) (fun h m=>?_)
 have:=m.1;rw [Zor] at this;rw [D];exact this
