/- laws -/
import Derived.Test.YtggcdinoflchjaaGreatDoorK17
set_option maxRecDepth 100000
set_option maxHeartbeats 16000000
namespace Go.Proofs.YtggcdinoflchjaaGreatDoor
open Go.RowKit
theorem Zos:(Tryz.prog.info? 99).map (fun i=>(i.zero,i.size,i.bytes))=some (some (.agg #[.string ⟨#[]⟩,.string ⟨#[]⟩,.bool false]),3,40):=by kernel_rfl
theorem TRow.lower {α:Type} {n:Nat} {t:TypeId} {R:Zao α} (l:Stays R) {lo a:Nat} {w:World} {h:Value} {m:List α} {d:List Value} (b:TRow n t R lo w h m d) (f:a<=lo):TRow n t R a w h m d:=
 ⟨b.row,fun g j=>Yaq f (b.own g j),b.len,b.size,fun k x q=>by obtain ⟨u,r,p⟩:=b.each k x q;exact ⟨u,r,l.mono p (fun i _ c=>⟨Yaq f c.1,c.2⟩)⟩⟩
def Zbh (es:List Ent) (i:Nat):List Fld:=match es[i]? with|some e=>e.cls.flds|none=>[]
def Zbl (es:List Ent):List Nat->List Fld
 | []=>[]
 | i :: l=>Zbl es l++Zbh es i
theorem Zgn {es:List Ent} (b:∀ (i:Nat) (e:Ent),es[i]? = some e->e.cls.flds.length<=32):∀ L,(Zbl es L).length<=L.length * 32
 | []=>by simp [Zbl]
 | i :: l=>by
  have d:=Zgn b l;have c:(Zbh es i).length<=32:=by
   unfold Zbh;cases a:es[i]? with
   | none=>simp
   | some e=>exact b i e a
  simp only [Zbl,Yak,YaI];omega
def ZnY (fs:List Fld) (w:World) (e:Ending) (w':World):Prop:=∃ v,e=.returned v/\TRow 3 99 FldR w.heap.size w' v fs (fs.map fldV)/\Below w.heap.size w w'
def ZqB (es:List Ent) (n:List UInt8):List Fld:=Zbl es (Zap es (Zad es n))
theorem ZhB (es:List Ent):∀ (n:Nat) (o:Option Nat),(Zfd es n o).length<=n
 | 0,_=>by simp [Zfd]
 | n+1,none=>by simp [Zfd]
 | n+1,some i=>by
  unfold Zfd;split
  ·rw [YaI];exact Nat.succ_le_succ (ZhB es n _)
  ·simp
def idxV:Option Nat->Int
 | some k=>k
 | none=>-1
def Zfx (o:Option Nat) (w:World) (e:Ending) (w':World):Prop:=e=.returned (.int .i64 (idxV o))/\Below w.heap.size w w'
theorem Ziy {α:Type} {p:α->Bool} {l:List α} {k:Nat} {x:α} (d:l[k]? = some x) (b:(l.take k).any p=false) (g:p x=true):l.findIdx? p=some k:=by
 obtain ⟨h,c⟩:=Yag.1 d;rw [YaV];refine ⟨h,by rw [c];exact g,fun j a=>?_⟩;have f:=YaT.1 b (l[j]'(by omega)) (Yaf (i:=j) (by rw [List.getElem?_take_of_lt a,Yaa (by omega)]))
 simpa using f
def ZcL (es:List Ent) (n f:List UInt8):Option Nat:=(ZqB es n).findIdx? (fun x=>x.name == f)
def MPtr (A:Nat->Prop) (w:World) (p:Value) (m:Mth):Prop:=∃ b o v,p=.pointer (some ⟨b,o,none⟩)/\MthR A w m v/\v.cells.size=7/\b<w.heap.size/\∀ (a:Nat) u,v.cells[a]? = some u->w.cell? ⟨b,o+a,none⟩=some u
def Zar (es:List Ent) (i:Nat):List Mth:=match es[i]? with|some e=>e.cls.mths|none=>[]
def ownM (es:List Ent) (x:Nat) (n:List UInt8):Option Mth:=(Zar es x).find? (fun m=>m.name == n)
def OwnP (A:Nat->Prop) (w:World) (o:Option Mth) (p:Value):Prop:=match o with
 | some m=>MPtr A w p m
 | none=>p=.pointer none
def OwnG (A:Nat->Prop) (a:World) (o:Option Mth) (w:World) (e:Ending) (w':World):Prop:=∃ p,e=.returned p/\OwnP A a o p/\Below w.heap.size w w'
theorem ZoY {A:Nat->Prop} {B:Nat->Nat} {aw af:Nat} {es:List Ent} {g:World} (V:Tab A g aw af B es) (i:Nat) (T:i<es.length) (n:List UInt8) (w:World) (F:Below g.heap.size g w) (h:(Zar es i).length<=9223372036854775807) :
  Calls Tryz.prog 228 #[.pointer (some ⟨B i,0,none⟩),.string (S n)] w (OwnG A g (ownM es i n) w):=by
 obtain ⟨al,au,ax,sv,I,_,_,r,_⟩:=V.ent i es[i] (Yaa T);have z:Zar es i=es[i].cls.mths:=by unfold Zar;rw [Yaa T]
 rw [←z] at r;unfold ownM;generalize Zar es i=d at r h ⊢;obtain ⟨H,ag,rfl⟩:=r.shape;have L:=Hd (Src.elem r);have ah:=Hd F;obtain ⟨j,t⟩:∃ k,k=d.length:=⟨_,rfl⟩
 have P:=Hd t;have Z:w.cell? ⟨B i,8,none⟩=some (.slice H d.length ag):=(I.below F).cell 8 rfl;rw [←t] at h Z;have aD:=Zae n;have p:∀ (k:Nat) (x:Mth),d[k]? = some x->∀ b o,H=some ⟨b,o,none⟩->b<g.heap.size:=fun k x f b o ab=>by
  obtain ⟨ac,am,v,R,_,aC,X⟩:=L.o k x f;rw [ab] at R;have J:=Yae R;have W:b=ac:=Ya5 Addr.block J;have:=World.block_lt_of_cell? g _ (X 0 (v.cells[0]'(by omega)) (YbV _));rw [W];exact this
 have U:=Hd p;clear I r z t V F p;go_enter Tryz.func228,Tryz.ntmps228;go_wp2
 go_loopw [12] (fun v wr=>∃ k:Nat,k<=j/\v=.int .i64 k/\(d.take k).any (fun m=>m.name == n)=false/\wr=w) (fun v _=>j - (intOf v).toNat)
 case atStart=>exact ⟨0,Yai _,rfl,by simp,rfl⟩
 case round=>
  obtain ⟨k,ar,rfl,l,rfl⟩:=hrel;have G:=Hd l;clear l;by_cases ak:k<j
  ·have D:k<d.length:=by have:=P.o;omega
   obtain ⟨x,f⟩:∃ x,d[k]? = some x:=⟨_,Yaa D⟩
   obtain ⟨b,o,v,rfl,Q,C,u⟩:=L.o k x f;have ae:=Hd Q;have E:=Hd f;have M:=Hd u;obtain ⟨ap,aB,aq,y,_,_,_⟩:=Q;have av:wr.cell? ⟨b,o+k * 7,none⟩=some (.string (S x.name)):=(Yad (S:=fun _=>False) ah.o).cell (a:=⟨b,o+k * 7,none⟩) (by have aA:=u 0 (.string (S x.name)) (by rw [y];rfl);exact aA) id;have az:=Zae x.name;have Y:(0:Int)<=k:=by omega
   have aj:(k:Int)<(j:Int):=by omega
   have N:=Hd C;clear u y f D C;cases K:(x.name == n) with
   | true=>
    have c:d.find? (fun m=>m.name == n)=some x:=Zhk E.o (fun ay ao ad aa=>by
     have:=YaT.1 G.o ao (Yaf (i:=ay) (by rw [List.getElem?_take_of_lt ad];exact aa))
     simpa using this) K
    have s:=Hd c;clear c;go_wp2;go_ret;refine ⟨_,rfl,?_,Yab _ _⟩;rw [s.o];exact ⟨b,o+k * 7,v,rfl,ae.o,N.o,U.o k x E.o b o rfl,M.o⟩
   | false=>
    have q:=Zah (fun m:Mth=>m.name == n) d k x E.o;rw [G.o,K] at q;have O:=Hd q;clear q;go_wp2
    go_roundw
    case rel=>exact ⟨k+1,by omega,by go_num,O.o,(by first|rfl|trivial)⟩
    case measure=>simp [intOf];omega
  ·obtain rfl:j=k:=by omega
   have c:d.find? (fun m=>m.name == n)=none:=by
    have ai:=G.o;rw [P.o,Yaw (Yac _)] at ai;rw [Ycj];intro x f;have:=YaT.1 ai x f
    simpa using this
   have s:=Hd c;clear c;go_wp2;go_ret;refine ⟨_,rfl,?_,Yab _ _⟩;rw [s.o];exact rfl
def Seen1 (B:Nat->Nat) (x c b:Nat) (p:Value) (w w':World):Prop:=∃ a,Below w.heap.size w a/\w'=(a.setCell ⟨c,0,none⟩ (entV B x)).setCell ⟨b,0,none⟩ p
theorem ZmS {A:Nat->Prop} {B:Nat->Nat} {R M:Nat} {es:List Ent} {j:World} (C:Tab A j R M B es) (x:Nat) (N:x<es.length) (n:List UInt8) (w:World) (z:Below j.heap.size j w) (f:(Zar es x).length<=9223372036854775807)
  (r s h:Nat) (L I:Option Addr) (u:w.cell? ⟨r,0,none⟩=some (.string (S n))) (t:Box w s #[.pointer L] 94) (E:Box w h #[.pointer I] 163) (k:s ≠ h) :
  Calls Tryz.prog 227 #[entV B x,.pointer (some ⟨r,0,none⟩),.pointer (some ⟨s,0,none⟩),.pointer (some ⟨h,0,none⟩)] w
   (YesNo (fun w'=>∃ m p,ownM es x n=some m/\MPtr A j p m/\Seen1 B x s h p w w') (fun w'=>ownM es x n=none/\Seen1 B x s h (.pointer none) w w')):=by
 have i:=Hd (ZoY C x N n w z f);have K:=Hd t;have G:=Hd E;have D:=Hd k;clear C z f t E k;unfold OwnG at i;generalize c:ownM es x n=o at i ⊢;clear c;go_enter Tryz.func227,Tryz.ntmps227
 go_wp2_with fail
 refine i.o.mono ?_;rintro e q ⟨p,rfl,l,g⟩;have y:=Hd g;have c:=K.o.below g;have d:=G.o.below g;have a:=D.o;have Q:=c.cell 0 rfl;have O:=c.free 0;have T:=(d.set_ne (Ne.symm a) 0 (entV B x)).cell 0 rfl;have P:=(d.set_ne (Ne.symm a) 0 (entV B x)).free 0;cases o with
 | none=>
  obtain rfl:p=.pointer none:=l;have H:=((d.set_ne (Ne.symm a) 0 (entV B x)).set 0 (.pointer none)).cell 0 rfl;clear g c d i u a;go_wp2;go_ret;exact ⟨false,rfl,(fun F=>by cases F),fun _=>⟨q,y.o,rfl⟩⟩
 | some m=>
  have J:=Hd l;obtain ⟨b,o,v,rfl,_⟩:=l;have H:=((d.set_ne (Ne.symm a) 0 (entV B x)).set 0 (.pointer (some ⟨b,o,none⟩))).cell 0 rfl;clear g c d i u a;go_wp2;go_ret;exact ⟨true,rfl,fun _=>⟨m,_,rfl,J.o,q,y.o,rfl⟩,(fun F=>by cases F)⟩
theorem Zjp {P:Program} {t e:TypeId} (b:P.underlying t=some (.pointer e)) {w:World} {a:Addr} {v:Value} (c:w.cell? a=some v):(loadVar t a).run P w=.ok v w:=by
 simp [loadVar,isAgg,run_underlying b,c,Result.andThen]
def ZbI (es:List Ent) (o:Option Nat) (n:List UInt8):Option (Nat × Mth):=(ZaE es o).findSome? (fun x=>(ownM es x n).map (fun m=>(x,m)))
def Zqm (A:Nat->Prop) (B:Nat->Nat) (w:World) (c:Option (Nat × Mth)) (b a:Option Addr):Prop:=match c with
 | some (x,m)=>b=some ⟨B x,0,none⟩/\MPtr A w (.pointer a) m
 | none=>a=none
def Zpu (A:Nat->Prop) (B:Nat->Nat) (c:World) (d:Option (Nat × Mth)) (w:World) (e:Ending) (w':World):Prop:=∃ b a,e=.returned (.tuple #[.pointer b,.pointer a])/\Zqm A B c d b a/\Below w.heap.size w w'
theorem Zgm {α m:Type} {f:α->Option m} {l:List α} {k:Nat} {x:α} {n:m} (b:l[k]? = some x) (c:∀ d z,d<k->l[d]? = some z->f z=none) (h:f x=some n):l.findSome? f=some n:=by
 induction l generalizing k with
 | nil=>simp at b
 | cons a l j=>
  cases k with
  | zero=>
   simp at b
   subst b;rw [YbE,h]
  | succ k=>
   have g:=c 0 a (by omega) rfl;rw [YbE,g];exact j (k:=k) (by simpa using b) (fun d z p i=>c (d+1) z (by omega) (by simpa using i))
theorem Seen1.boxes {B:Nat->Nat} {x d a:Nat} {h i:Option Addr} {p:Option Addr} {w w':World} (k:Seen1 B x d a (.pointer p) w w') (g:Box w d #[.pointer h] 94) (j:Box w a #[.pointer i] 163) (f:d ≠ a) :
  Box w' d #[entV B x] 94/\Box w' a #[.pointer p] 163/\Only (fun b=>b=d\/b=a) w w':=by
 obtain ⟨l,c,rfl⟩:=k;exact ⟨((g.below c).set 0 _).set_ne f 0 _,((j.below c).set_ne (Ne.symm f) 0 _).set 0 _,((Yad c).setCell (Or.inl rfl) _).setCell (Or.inr rfl) _⟩
def ZqV (es:List Ent) (o:Option Nat) (n:List UInt8) (f a:Nat) (W:World) (k:Nat) (w':World):Prop:=
 (∃ c,Box w' f #[.pointer c] 94)/\Box w' a #[.pointer none] 163/\Only (fun b=>b=f\/b=a) W w'/\∀ d x,d<k->(ZaE es o)[d]? = some x->ownM es x n=none
def Zpv (A:Nat->Prop) (B:Nat->Nat) (f:World) (es:List Ent) (o:Option Nat) (n:List UInt8) (g d:Nat) (W:World) (w':World):Prop:=
 ∃ a c,Box w' g #[.pointer a] 94/\Box w' d #[.pointer c] 163/\Zqm A B f (ZbI es o n) a c/\Only (fun b=>b=g\/b=d) W w'
theorem Zks {A:Nat->Prop} {B:Nat->Nat} {ap ab:Nat} {es:List Ent} {l:World} (X:Tab A l ap ab B es) (t:Shape es) (R:∀ i,(Zar es i).length<=9223372036854775807) (o:Option Nat) (s:∀ i,o=some i->i<es.length) (n:List UInt8)
  (r E d:Nat) (W:World) (G:Below l.heap.size l W) (U:W.cell? ⟨r,0,none⟩=some (.string (S n))) (T:Box W E #[.pointer none] 94) (Z:Box W d #[.pointer none] 163) (L:E ≠ d) (ag:r ≠ E) (ad:r ≠ d) (ah:l.heap.size<=E) (ae:l.heap.size<=d) :
  Calls Tryz.prog 192 #[ptrV B o,.func (.func 227) #[] #[.pointer (some ⟨r,0,none⟩),.pointer (some ⟨E,0,none⟩),.pointer (some ⟨d,0,none⟩)]] W (fun e w'=>∃ b,e=.returned (.bool b)/\Zpv A B l es o n E d W w'):=by
 have V:=t.line o s;have ai:=T.lt;have af:=Z.lt;have ak:r<W.heap.size:=World.block_lt_of_cell? W _ U;refine (ZgY X t.len t.lk _ _ (Zai Tryz.func227 (by kernel_rfl) rfl) W.heap.size es.length o (Zap es o) V (t.mem V) (ZqV es o n E d W) (fun _=>Zpv A B l es o n E d W) W (Yac _)
  (fun k w' c=>G.trans (c.2.2.1.below G.size (fun i g=>by rcases g with c|c <;> omega))) (fun k am w2 c s=>?_) (fun k x w' O f=>?_) ⟨⟨_,T⟩,Z,Yan _ _,fun H x f=>by omega⟩).mono fun e w' aa=>?_
 ·obtain ⟨⟨C,j⟩,q,h,a⟩:=c;exact ⟨⟨C,j.keep s (by omega)⟩,q.keep s (by omega),h.then s (fun i g aj=>by omega),a⟩
 ·have u:(ZaE es o)[k]? = some x:=O;obtain ⟨⟨C,j⟩,q,h,a⟩:=f;refine (ZmS X x (Zd0 t s x (Yaf u)) n w' (G.trans (h.below G.size (fun i g=>by rcases g with c|c <;> omega))) (R x) r E d C none (h.cell U (by rintro (c|c) <;> contradiction)) j q L).mono fun e ac aa=>?_
  obtain ⟨b,F,K,D⟩:=aa;cases b with
  | true=>
   obtain ⟨m,p,J,Y,I⟩:=K rfl;have Q:=Y;obtain ⟨al,ao,v,rfl,_⟩:=Y;obtain ⟨M,P,y⟩:=I.boxes j q L;refine ⟨⟨true,F,fun _=>⟨_,_,M,P,?_,h.trans y⟩,(fun c=>by cases c)⟩,y.mono (fun i _ g=>by rcases g with c|c <;> (show i<W.heap.size;omega))⟩;have N:ZbI es o n=some (x,m):=Zgm u (fun H z f w=>by rw [a H z f w];rfl) (by rw [J];rfl);rw [N];exact ⟨rfl,Q⟩
  | false=>
   obtain ⟨J,I⟩:=D rfl;obtain ⟨M,P,y⟩:=I.boxes j q L;refine ⟨⟨false,F,(fun c=>by cases c),fun _=>⟨⟨_,M⟩,P,h.trans y,fun H z f w=>?_⟩⟩,y.mono (fun i _ g=>by rcases g with c|c <;> (show i<W.heap.size;omega))⟩;rcases YaB H k with c|c
   ·exact a H z c w
   ·obtain rfl:H=k:=by omega
    rw [u] at w;rw [←Yae w];exact J
 ·obtain ⟨b,F,K,D⟩:=aa;refine ⟨b,F,?_⟩;cases b with
  | true=>
   obtain ⟨_,_,c⟩:=K rfl;exact c
  | false=>
   obtain ⟨⟨C,j⟩,q,h,a⟩:=D rfl;refine ⟨C,none,j,q,?_,h⟩;have N:ZbI es o n=none:=by
    unfold ZbI;rw [List.findSome?_eq_none_iff];intro x O;obtain ⟨H,f⟩:=YbD O;rw [a H x (Yag.1 f).1 f];rfl
   rw [N];exact rfl
theorem Zju {A:Nat->Prop} {B:Nat->Nat} {ab Y:Nat} {es:List Ent} {g:World} (H:Tab A g ab Y B es) (z:Shape es) (l:∀ i,(Zar es i).length<=9223372036854775807) (o:Option Nat) (C:∀ i,o=some i->i<es.length) (n:List UInt8)
  (w:World) (j:Below g.heap.size g w):Calls Tryz.prog 185 #[ptrV B o,.string (S n)] w (Zpu A B g (ZbI es o n) w):=by
 have Z:∀ (K:Fn) (first p:Array Value) (w:World),(Instr.makeFunc K first p).run Tryz.prog w=.ok (.func K first p) w:=fun _ _ _ _=>rfl
 have r:Below w.heap.size w (((w.alloc (.cells #[.string (S n)] 9)).alloc (.cells #[.pointer none] 94)).alloc (.cells #[.pointer none] 163)):=Zaa (Zaa (Zaa (Yab _ _) _) _) _;have E:=(Box.new w #[.string (S n)] 9).below (w':=((w.alloc (.cells #[.string (S n)] 9)).alloc (.cells #[.pointer none] 94)).alloc (.cells #[.pointer none] 163)) (Zaa (Zaa (Yab _ _) _) _);have q:=(Box.new (w.alloc (.cells #[.string (S n)] 9)) #[.pointer none] 94).below (w':=((w.alloc (.cells #[.string (S n)] 9)).alloc (.cells #[.pointer none] 94)).alloc (.cells #[.pointer none] 163)) (Zaa (Yab _ _) _);have s:=Box.new ((w.alloc (.cells #[.string (S n)] 9)).alloc (.cells #[.pointer none] 94)) #[.pointer none] 163;have x:(w.alloc (.cells #[.string (S n)] 9)).heap.size=w.heap.size+1:=by simp
 have G:((w.alloc (.cells #[.string (S n)] 9)).alloc (.cells #[.pointer none] 94)).heap.size=w.heap.size+1+1:=by simp
 rw [x] at q;rw [G] at s;have y:=j.size;have d:=Hd (Zks H z l o C n w.heap.size (w.heap.size+1) (w.heap.size+1+1) _ (j.trans (r.mono j.size)) (E.cell 0 rfl) q s (by omega) (by omega) (by omega) (by omega) (by omega));obtain ⟨ad,u⟩:=ZdI B o;rw [u] at d ⊢;have t:=Hd r;unfold Zpv at d;generalize ZbI es o n=ac at d ⊢;clear H z l C j r E q s x G y u;go_enter Tryz.func185,Tryz.ntmps185
 go_upto_region 1 with fail
 go_wp2_with fail
 refine d.o.mono ?_;rintro e f ⟨b,rfl,c,a,h,k,J,m⟩;have R:=Hd J;have U:=Hd h;have Q:=Hd k;have V:Hid (Below w.heap.size w f):=Hd (t.o.trans (m.below (by have:=t.o.size;omega) (fun i W=>by rcases W with aa|aa <;> omega)));have P:=h.cell 0 rfl;have L:=h.free 0;have X:=k.cell 0 rfl;have N:=k.free 0;clear J h k m d t
 go_upto_region 2 with fail
 go_region
 all_goals
  clear P L X N;have M:=((U.o.set 0 (.pointer c)).set_ne (I:=w.heap.size+1+1) (by omega) 0 (.pointer a)).cell 0 rfl;have T:=((Q.o.set_ne (I:=w.heap.size+1) (by omega) 0 (.pointer c)).set 0 (.pointer a)).cell 0 rfl;have F:Below w.heap.size w (((f.setCell ⟨w.heap.size+1,0,none⟩ (.pointer c)).setCell ⟨w.heap.size+1+1,0,none⟩ (.pointer a)).drew):=
   Zab ((V.o.setCell (by show w.heap.size<=w.heap.size+1;omega) _).setCell (by show w.heap.size<=w.heap.size+1+1;omega) _)
  have D:=Hd F;clear F;go_wp2;refine bodyPost_ret (v:=.tuple #[.pointer c,.pointer a]) ?_ rfl ⟨c,a,rfl,R.o,D.o⟩;have O:=Zjp Tryz.underlying94 (w:=(((f.setCell ⟨w.heap.size+1,0,none⟩ (.pointer c)).setCell ⟨w.heap.size+1+1,0,none⟩ (.pointer a)).drew)) M;have l2:=Zjp Tryz.underlying163 (w:=(((f.setCell ⟨w.heap.size+1,0,none⟩ (.pointer c)).setCell ⟨w.heap.size+1+1,0,none⟩ (.pointer a)).drew)) T;simp only [results,Tryz.results185];simp [asAddr,O,l2]
def Cloned {α:Type} (n:Nat) (R:Zao α) (A:Nat->Prop) (lo:Nat) (w:World) (v:Value) (l:List α):Prop:=
 (l=[]/\∃ a c,v=.slice a 0 c)\/
 ∃ g c,v=.slice (some ⟨g,0,none⟩) l.length c/\lo<=g/\g<w.heap.size/\l.length<=c/\c<=9223372036854775807/\(∀ m,w.frozen? ⟨g,m,none⟩=false)/\
  ∀ (b:Nat) (x:α),l[b]? = some x->∃ u,R A w x u/\u.cells.size=n/\∀ (i:Nat) c,u.cells[i]? = some c->w.cell? ⟨g,b * n+i,none⟩=some c
section
variable {P:Program} {w:World}
theorem Zdz {α:Type} {n:Nat} (Z:0<n) {R:Zao α} (aj:Stays R) {A:Nat->Prop} {sv:Value} {l:List α} (I:∀ x v,R A w x v->∀ u ∈ v.cells.toList,u.oneCell'=true) (t ty e:TypeId) (i:TypeInfo) (z:Value) (d:Nat)
  (V:P.underlying t=some (.slice e)) (ac:P.info? e=some i) (av:i.zero=some z) (y:i.size=n) (O:i.bytes=d) (aa:z.cells.size=n) (aq:Src n R A w sv l) (J:l.length * d<=140737488355328) (ay:l.length<=9223372036854775807) :
  ∃ s w',(Builtin.append_ #[t,t] ty #[.slice (some ⟨w.heap.size,0,none⟩) 0 0,sv]).run P (w.alloc (.cells #[] e))=.ok s w'/\Cloned n R A w.heap.size w' s l/\Below w.heap.size w w':=by
 have f:Below w.heap.size w (w.alloc (.cells #[] e)):=(Yab _ w).alloc (Yac _) _;have r:(w.alloc (.cells #[] e)).ownsRow 0 e n (.slice (some ⟨w.heap.size,0,none⟩) 0 0) 0 []:=
  ⟨by simp,.inr ⟨w.heap.size,0,#[],rfl,Yai _,heap_alloc_new w _,Yac _,Yai _,by simp,by simp⟩⟩
 rcases aq with ⟨al,am,rfl,rfl⟩|⟨b,o,N,rfl,_,aw⟩
 ·exact ⟨_,_,Za5 _ t ty e i n V ac _ 0 [] r al am,.inl ⟨rfl,_,_,rfl⟩,f⟩
 ·have ak:=Yad (S:=fun _=>False) f;obtain ⟨a,Q,B⟩:=Src.vals aw;have q:∀ u ∈ a,u.cells.size=n:=fun u ao=>by
   obtain ⟨k,p⟩:=YbD ao;obtain ⟨_,_,_,aA,_⟩:=B k u p;exact aA
  have ag:(ZaM a).length=l.length * n:=by rw [Zcq a q,Q]
  have C:=Src.cells a B Z;have au:∀ u ∈ ZaM a,u.oneCell'=true:=fun M h=>by
   unfold ZaM at h;obtain ⟨u,Y,T⟩:=YbB.1 h;obtain ⟨k,p⟩:=YbD Y;obtain ⟨x,_,E,_,_⟩:=B k u p;exact I x u E M T
  obtain ⟨s,w',ai,K,af⟩:=Zbi (P:=P) (w.alloc (.cells #[] e)) t ty e i z n d V ac av y O aa Z _ 0 [] r ⟨b,o,none⟩ l.length N (ZaM a) ag (fun D M h=>ak.cell (C D M h) id) au (by unfold maxLen;omega) (by rw [Ybc];exact J);rw [Ybc,Ybm] at K;have F:Below w.heap.size w w':=f.trans (af.only.below f.size (fun k p=>by simp [Value.ownBlock] at p;omega));refine ⟨s,w',ai,?_,F⟩;have ae:∀ g,s.ownBlock=some g->w.heap.size<=g:=fun g j=>by
   rcases af.came with L|L
   ·rw [L] at j;simp [Value.ownBlock] at j
    omega
   ·have aB:=L g j;have aC:=f.size;omega
  rcases K.2 with ⟨ar,ap⟩|⟨g,c,ax,rfl,_,j,W,ab,az,ah⟩
  ·exact .inl ⟨YaY.1 ap,_,_,ar⟩
  ·refine .inr ⟨g,c,rfl,ae g rfl,lt_of_block j,W,ab,fun m=>?_,fun D x E=>?_⟩
   ·unfold World.frozen?;rw [j];simp
   ·have aD:D<l.length:=(Yag.1 E).1;have H:a[D]? = some a[D]:=Yaa (by omega);obtain ⟨aE,X,U,G,_⟩:=B D _ H;rw [E] at X;obtain rfl:=Yae X;refine ⟨a[D],aj.keep U (Yad (S:=fun _=>False) F) (fun _ _=>id),G,fun M c h=>?_⟩;have ad:=ZcR G h;have:=K.cells (g:=g) rfl (D * n+M) c (by rw [ZcA a D M _ q H ad];exact h);rw [Ybo,Ybc] at this;exact this
end
noncomputable def setRow (w:World) (g o:Nat):List Value->World
 | []=>w
 | c :: r=>setRow (w.setCell ⟨g,o,none⟩ c) g (o+1) r
theorem ZbD {S:Nat->Prop} {a:World}:∀ (b:List Value) (w:World) (g o:Nat),Only S a w->S g->Only S a (setRow w g o b)
 | [],_,_,_,h,_=>h
 | c :: r,_,g,o,h,hg=>ZbD r _ g (o+1) (h.setCell (p:=⟨g,o,none⟩) hg c) hg
theorem Zey:∀ (a:List Value) (w:World) (g o m:Nat) (v:Value),w.cell? ⟨g,m,none⟩=some v->(m<o\/o+a.length<=m)->(setRow w g o a).cell? ⟨g,m,none⟩=some v
 | [],_,_,_,_,_,h,_=>h
 | c :: r,w,g,o,m,v,h,hm=>by
  unfold setRow;simp only [YaI] at hm;refine Zey r _ g (o+1) m v ?_ (by omega);rw [World.cell?_setCell_other w ⟨g,o,none⟩ ⟨g,m,none⟩ c (by intro e;injection e with _ e;omega)];exact h
theorem ZhY:∀ (a:List Value) (w:World) (g o i:Nat) (u:Value),(∀ m,m<a.length->∃ v,w.cell? ⟨g,o+m,none⟩=some v)->a[i]? = some u->(setRow w g o a).cell? ⟨g,o+i,none⟩=some u
 | [],_,_,_,i,_,_,hi=>by simp at hi
 | c :: r,w,g,o,0,u,hw,hi=>by
  simp at hi
  subst hi;unfold setRow;refine Zey r _ g (o+1) (o+0) c ?_ (by omega);obtain ⟨v,b⟩:=hw 0 (by simp);exact World.cell?_setCell_same w _ _ b
 | c :: r,w,g,o,i+1,u,hw,hi=>by
  unfold setRow;have:=ZhY r (w.setCell ⟨g,o,none⟩ c) g (o+1) i u (fun m d=>by
   obtain ⟨v,b⟩:=hw (m+1) (by simp;omega);refine ⟨v,?_⟩;rw [World.cell?_setCell_other w ⟨g,o,none⟩ ⟨g,o+1+m,none⟩ c (by intro e;injection e with _ e;omega),show o+1+m=o+(m+1) from by omega];exact b) (by simpa using hi)
  rw [show o+(i+1)=o+1+i from by omega];exact this
theorem Zek:∀ (b:List Value) (w:World) (g o:Nat) (a:Addr),(setRow w g o b).frozen? a=w.frozen? a
 | [],_,_,_,_=>rfl
 | c :: r,w,g,o,a=>by
  unfold setRow;rw [Zek r _ g (o+1) a];exact World.frozen?_setCell _ _ _ _
structure CInv {α:Type} (n:Nat) (R:Zao α) (lo g k:Nat) (w:World) (l:List α):Prop where
 lt:g<w.heap.size
 ge:lo<=g
 free:∀ m,w.frozen? ⟨g,m,none⟩=false
 at_:∀ (j:Nat) (x:α),l[j]? = some x->∃ u,(if j<k then R (fun i=>lo<=i/\i ≠ g) w x u else R (fun i=>i<lo) w x u)/\u.cells.size=n/\∀ (i:Nat) c,u.cells[i]? = some c->w.cell? ⟨g,j * n+i,none⟩=some c
theorem CInv.only {α:Type} {n:Nat} {R:Zao α} (j:Stays R) {lo g k:Nat} {w w':World} {l:List α} (h:CInv n R lo g k w l) (d:Below w.heap.size w w'):CInv n R lo g k w' l:=by
 have f:=Yad (S:=fun _=>False) d;refine ⟨Ybi h.lt d.size,h.ge,fun m=>?_,fun v x t=>?_⟩
 ·rw [d.frozen (p:=⟨g,m,none⟩) h.lt];exact h.free m
 ·obtain ⟨u,b,r,s⟩:=h.at_ v x t;refine ⟨u,?_,r,fun i c q=>f.cell (s i c q) id⟩;split
  ·rename_i a
   rw [YaC a] at b;exact j.keep b f (fun _ _=>id)
  ·rename_i a
   rw [Yas a] at b;exact j.keep b f (fun _ _=>id)
theorem CInv.elem {α:Type} {n:Nat} {R:Zao α} {lo g k:Nat} {w:World} {l:List α} {x:α} (h:CInv n R lo g k w l) (f:l[k]? = some x):∃ u,R (fun i=>i<lo) w x u/\u.cells.size=n/\∀ (i:Nat) c,u.cells[i]? = some c->w.cell? ⟨g,k * n+i,none⟩=some c:=by
 obtain ⟨u,a,b,d⟩:=h.at_ k x f;rw [Yas (Nat.lt_irrefl k)] at a;exact ⟨u,a,b,d⟩
theorem CInv.store {α:Type} {n:Nat} {R:Zao α} (a:Stays R) {lo g k:Nat} {w w':World} {l:List α} {x:α} {u:Value} (y:CInv n R lo g k w l) (E:Below w.heap.size w w') (G:l[k]? = some x)
  (F:R (fun i=>w.heap.size<=i) w' x u) (z:u.cells.size=n):CInv n R lo g (k+1) (setRow w' g (k * n) u.cells.toList) l:=by
 have r:=y.only a E;have d:Only (fun i=>i=g) w' (setRow w' g (k * n) u.cells.toList):=ZbD _ _ _ _ (Yan _ _) rfl;have q:u.cells.toList.length=n:=by rw [Ybj,z]
 refine ⟨Ybi r.lt d.size,y.ge,fun m=>by rw [Zek];exact r.free m,fun p J t=>?_⟩;obtain ⟨v,f,s,C⟩:=r.at_ p J t;by_cases A:p=k
 ·subst A;rw [G] at t;obtain rfl:=Yae t;refine ⟨u,?_,z,fun i c j=>?_⟩
  ·rw [YaC (Nat.lt_succ_self p)];have I:=y.lt;have B:=y.ge;exact a.keep (a.mono F (fun i _ b=>show lo<=i/\i ≠ g from ⟨by omega,by omega⟩)) d (fun i b=>b.2)
  ·refine ZhY u.cells.toList w' g (p * n) i c (fun m K=>?_) (by rw [Yb8];exact j);have D:m<v.cells.size:=by rw [s];omega
   exact ⟨_,C m v.cells[m] (YbV D)⟩
 ·refine ⟨v,?_,s,fun i c j=>?_⟩
  ·by_cases h:p<k
   ·rw [YaC h] at f;rw [YaC (by omega)];exact a.keep f d (fun i b=>b.2)
   ·rw [Yas h] at f;rw [Yas (by omega)];have B:=y.ge;exact a.keep f d (fun i (b:i<lo) (L:i=g)=>by omega)
  ·have H:=ZcR s j;refine Zey _ _ _ _ _ _ (C i c j) ?_;rw [q];rcases YaB p k with h|h
   ·left
    have:=Ycx n (show p+1<=k by omega);rw [Nat.succ_mul] at this;omega
   ·right
    have:=Ycx n (show k+1<=p by omega);rw [Nat.succ_mul] at this;omega
theorem CInv.done {α:Type} {n:Nat} {R:Zao α} (j:Stays R) {lo g c:Nat} {w:World} {l:List α} (d:CInv n R lo g l.length w l) (r:l.length<=c) (m:c<=9223372036854775807):Src n R (fun i=>lo<=i) w (.slice (some ⟨g,0,none⟩) l.length c) l:=by
 refine .inr ⟨g,0,c,rfl,⟨d.ge,d.lt,r,m⟩,fun k x b=>?_⟩;obtain ⟨u,a,p,h⟩:=d.at_ k x b;rw [YaC (Yag.1 b).1] at a;exact ⟨u,j.mono a (fun i _ f=>f.1),p,fun s v q=>by rw [Ybc];exact h s v q⟩
theorem Cloned.inv {α:Type} {n:Nat} {R:Zao α} {lo g:Nat} {w:World} {l:List α} (a:lo<=g) (b:g<w.heap.size) (f:∀ m,w.frozen? ⟨g,m,none⟩=false)
  (p:∀ (d:Nat) (x:α),l[d]? = some x->∃ u,R (fun i=>i<lo) w x u/\u.cells.size=n/\∀ (i:Nat) c,u.cells[i]? = some c->w.cell? ⟨g,d * n+i,none⟩=some c):CInv n R lo g 0 w l:=
 ⟨b,a,f,fun d x j=>by obtain ⟨u,k,h⟩:=p d x j;exact ⟨u,by rw [Yas (YbO d)];exact k,h⟩⟩
