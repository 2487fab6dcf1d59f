/- laws -/
import Derived.Test.YtggcdinoflchjaaGreatDoorK18
set_option maxRecDepth 100000
set_option maxHeartbeats 16000000
namespace Go.Proofs.YtggcdinoflchjaaGreatDoor
open Go.RowKit
def ZcZ {α:Type} (n:Nat) (R:Zao α) (A:Nat->Prop) (l:List α) (w:World) (e:Ending) (w':World):Prop:=∃ a,e=.returned a/\Cloned n R A w.heap.size w' a l/\Below w.heap.size w w'
def Zfy {α:Type} (R:Zao α) (d:Nat) (a:Array Value) (l:List α) (w:World):Prop:=
 ∀ (x:α) (v:Value) (W:World),x ∈ l->Below w.heap.size w W->R (fun i=>i<w.heap.size) W x v->Calls Tryz.prog d (#[v]++a) W (fun e c=>∃ b,e=.returned b/\R (fun i=>W.heap.size<=i) c x b/\Below W.heap.size W c)
def Zb2 {α:Type} (n:Nat) (R:Zao α) (l:List α) (w:World) (e:Ending) (w':World):Prop:=∃ a,e=.returned a/\Src n R (fun i=>w.heap.size<=i) w' a l/\Below w.heap.size w w'
theorem Zmx:(Tryz.prog.info? 9).map (fun i=>(i.zero,i.size,i.bytes))=some (some (.string ⟨#[]⟩),1,16):=by kernel_rfl
theorem ZoS {A:Nat->Prop} {w:World}:∀ x v,StrR A w x v->∀ u ∈ v.cells.toList,u.oneCell'=true:=fun x v b u a=>by
 obtain rfl:=b;simp [Value.cells] at a
 rcases a with rfl <;> rfl
theorem Zi5 {A:Nat->Prop} (l:List (List UInt8)) (sv:Value) (w:World) (i:Src 1 StrR A w sv l) (r:l.length<=1048576):Calls Tryz.prog 62 #[sv] w (ZcZ 1 StrR A l w):=by
 obtain ⟨z,h,j,f,g⟩:=info_parts Zmx;have d:=Hd (fun ty=>Zdz (P:=Tryz.prog) (w:=w) (n:=1) (by decide) StrR.st (fun x v m=>ZoS x v m) 22 ty 9 z _ 16 Tryz.underlying22 h j f g rfl i (by omega) (by omega));obtain ⟨s,D,rfl⟩:=i.shape;cases s with
 | none=>
  have p:l=[]:=by
   rcases i with ⟨_,_,_,m⟩|⟨b,o,c,m,_⟩
   ·exact m
   ·simp at m
  subst p;have u:=fun n c=>Lib.run_eql_slice_nil (P:=Tryz.prog) w 22 9 none n c 0 0 Tryz.underlying22
  clear d i h j f g r;go_enter Tryz.func62,Tryz.ntmps62;go_wp2;go_ret;exact ⟨_,rfl,.inl ⟨rfl,_,_,rfl⟩,Yab _ _⟩
 | some a=>
  generalize q:l.length=t at d ⊢;have u:=Lib.run_eql_slice_nil (P:=Tryz.prog) w 22 9 (some a) t D 0 0 Tryz.underlying22;clear q;clear i h j f g r;go_enter Tryz.func62,Tryz.ntmps62
  go_wp2_with (at_builtin;(obtain ⟨B,w',k,C,y⟩:=d.o _;refine Zak rfl _ _ 22 rfl _ _ B w' rfl rfl k ?_))
  go_ret;exact ⟨_,rfl,C,y⟩
theorem Zg8 {A:Nat->Prop} (ad:Nat) (j:Array Value) (v:∀ args w,(callFunc ad args).run Tryz.prog w=.ok (.enter ad args) w) (l:List (List UInt8)) (sv:Value) (w:World) (M:Src 1 StrR A w sv l) (aj:l.length<=1048576) (ar:Zfy StrR ad j l w) :
  Calls Tryz.prog 163 #[sv,.func (.func ad) #[] j] w (Zb2 1 StrR l w):=by
 have U:Src 1 StrR (fun i=>i<w.heap.size) w sv l:=StrR.st.srcMono M (fun k ab _=>ab);have z:=Hd (Zi5 l sv w U aj);unfold ZcZ at z;obtain ⟨aE,aK,rfl⟩:=U.shape;have aw:=Hd v;have av:=Hd ar;clear v ar U M;obtain ⟨h,s⟩:∃ h,h=l.length:=⟨_,rfl⟩
 have V:=Hd s;rw [←s] at z aj ⊢;clear s;go_enter Tryz.func163,Tryz.ntmps163
 go_wp2_with fail
 refine z.o.mono ?_;rintro e aa ⟨aJ,rfl,az,Z⟩;have ap:=Hd Z;clear Z z;rcases az with ⟨D,aG,c,rfl⟩|⟨g,c,rfl,I,K,C,R,P,F⟩
 ·have X:=Hd D;clear D;go_wp2
  go_loopw [11] (fun p wr=>p=.int .i64 0/\wr=aa) (fun _ _=>0)
  case atStart=>exact ⟨rfl,rfl⟩
  case round=>
   obtain ⟨rfl,rfl⟩:=hrel;go_wp2;go_ret;exact ⟨_,rfl,by rw [X.o];exact .inl ⟨_,_,rfl,rfl⟩,ap.o⟩
 have a:CInv 1 StrR w.heap.size g 0 aa l:=Cloned.inv I K P F;have af:=Hd a;have ai:=Hd C;have ae:=Hd R;clear a I K C R P F;rw [←V.o];go_wp2
 go_loopw [11] (fun p wr=>∃ k:Nat,k<=h/\p=.int .i64 k/\CInv 1 StrR w.heap.size g k wr l/\Below w.heap.size w wr) (fun p _=>h - (intOf p).toNat)
 case atStart=>exact ⟨0,Yai _,rfl,af.o,ap.o⟩
 case round=>
  obtain ⟨k,ab,rfl,a,G⟩:=hrel;have f:=Hd a;have b:=Hd G;clear a G af;by_cases aC:k<h
  ·have N:k<l.length:=by have:=V.o;omega
   obtain ⟨x,B⟩:∃ x,l[k]? = some x:=⟨_,Yaa N⟩
   have Y:=Hd B;obtain ⟨u,ak,ah,Q⟩:=f.o.elem B;have O:=ak;obtain rfl:=ak;have ax:wr.cell? ⟨g,k,none⟩=some (.string (S x)):=by have t:=Q 0 (.string (S x)) rfl;rw [YaG] at t;exact t
   have m:Below wr.heap.size wr wr:=Yab _ _;have q:=Hd m;have J:Hid (Calls Tryz.prog ad (#[.string (S x)]++j) wr (fun e ag=>∃ y,e=.returned y/\StrR (fun i=>wr.heap.size<=i) ag x y/\Below wr.heap.size wr ag)):=Hd (av.o x _ wr (Yaf B) (b.o.trans (m.mono b.o.size)) (StrR.st.keep O (Yad (S:=fun _=>False) m) (fun _ _=>id)));clear B Q ah N m O;have aD:(0:Int)<=k:=by omega
   have aB:(k:Int)<(h:Int):=by omega
   have v:=aw.o
   go_wp2_with fail
   refine J.o.mono ?_;rintro e w2 ⟨y,rfl,al,L⟩;have n:=Hd (q.o.trans (L.mono q.o.size));have ac:Hid (StrR (fun i=>wr.heap.size<=i) w2 x y):=Hd (StrR.st.mono al (fun i _ W=>Yaq q.o.size W));obtain rfl:=al;have d:=f.o.only StrR.st n.o;have H:=f.o.store StrR.st n.o Y.o ac.o rfl;have E:Below w.heap.size w (setRow w2 g (k * 1) [.string (S x)]):=(b.o.trans (n.o.mono b.o.size)).trans ((ZbD (S:=fun i=>i=g) _ _ _ _ (Yan _ _) rfl).below (Yaq b.o.size n.o.size) (fun i W=>by subst W;exact f.o.ge));have aq:=Hd H;have am:=Hd E;obtain ⟨aI,au,T,r⟩:=d.elem Y.o;obtain rfl:=au;have aH:w2.cell? ⟨g,k,none⟩=some (.string (S x)):=by have t:=r 0 (.string (S x)) rfl;rw [YaG] at t;exact t
   have aF:w2.frozen? ⟨g,k,none⟩=false:=d.free _;clear v d H E L r T J ax;go_wp2
   go_roundw
   case rel=>
    have ay:CInv 1 StrR w.heap.size g (k+1) (w2.setCell ⟨g,k,none⟩ (.string (S x))) l:=by have t:=aq.o;rw [YaG] at t;exact t
    have aA:Below w.heap.size w (w2.setCell ⟨g,k,none⟩ (.string (S x))):=by have t:=am.o;rw [YaG] at t;exact t
    exact ⟨k+1,by omega,by go_num,ay,aA⟩
   case measure=>simp [intOf];omega
  ·obtain rfl:h=k:=by omega
   go_wp2;go_ret;refine ⟨_,rfl,?_,b.o⟩;have ao:=f.o;rw [V.o] at ao ⊢;exact ao.done StrR.st ai.o ae.o
theorem Zmu:(Tryz.prog.info? 99).map (fun i=>(i.zero,i.size,i.bytes))=some (some (.agg #[.string ⟨#[]⟩,.string ⟨#[]⟩,.bool false]),3,40):=by kernel_rfl
theorem ZoP {A:Nat->Prop} {w:World}:∀ x v,FldR A w x v->∀ u ∈ v.cells.toList,u.oneCell'=true:=fun x v b u a=>by
 obtain rfl:=b;simp [Value.cells] at a
 rcases a with rfl|rfl|rfl <;> rfl
theorem Zi2 {A:Nat->Prop} (l:List (Fld)) (sv:Value) (w:World) (i:Src 3 FldR A w sv l) (r:l.length<=1048576):Calls Tryz.prog 217 #[sv] w (ZcZ 3 FldR A l w):=by
 obtain ⟨z,h,j,f,g⟩:=info_parts Zmu;have d:=Hd (fun ty=>Zdz (P:=Tryz.prog) (w:=w) (n:=3) (by decide) FldR.st (fun x v m=>ZoP x v m) 84 ty 99 z _ 40 Tryz.underlying84 h j f g rfl i (by omega) (by omega));obtain ⟨s,D,rfl⟩:=i.shape;cases s with
 | none=>
  have p:l=[]:=by
   rcases i with ⟨_,_,_,m⟩|⟨b,o,c,m,_⟩
   ·exact m
   ·simp at m
  subst p;have u:=fun n c=>Lib.run_eql_slice_nil (P:=Tryz.prog) w 84 99 none n c 0 0 Tryz.underlying84
  clear d i h j f g r;go_enter Tryz.func217,Tryz.ntmps217;go_wp2;go_ret;exact ⟨_,rfl,.inl ⟨rfl,_,_,rfl⟩,Yab _ _⟩
 | some a=>
  generalize q:l.length=t at d ⊢;have u:=Lib.run_eql_slice_nil (P:=Tryz.prog) w 84 99 (some a) t D 0 0 Tryz.underlying84;clear q;clear i h j f g r;go_enter Tryz.func217,Tryz.ntmps217
  go_wp2_with (at_builtin;(obtain ⟨B,w',k,C,y⟩:=d.o _;refine Zak rfl _ _ 84 rfl _ _ B w' rfl rfl k ?_))
  go_ret;exact ⟨_,rfl,C,y⟩
theorem ZlU {A:Nat->Prop} (Z:Nat) (j:Array Value) (v:∀ args w,(callFunc Z args).run Tryz.prog w=.ok (.enter Z args) w) (l:List (Fld)) (sv:Value) (w:World) (P:Src 3 FldR A w sv l) (ah:l.length<=1048576) (aj:Zfy FldR Z j l w) :
  Calls Tryz.prog 164 #[sv,.func (.func Z) #[] j] w (Zb2 3 FldR l w):=by
 have T:Src 3 FldR (fun i=>i<w.heap.size) w sv l:=FldR.st.srcMono P (fun k X _=>X);have y:=Hd (Zi2 l sv w T ah);unfold ZcZ at y;obtain ⟨aM,aL,rfl⟩:=T.shape;have ay:=Hd v;have au:=Hd aj;clear v aj T P;obtain ⟨m,s⟩:∃ m,m=l.length:=⟨_,rfl⟩
 have U:=Hd s;rw [←s] at y ah ⊢;clear s;go_enter Tryz.func164,Tryz.ntmps164
 go_wp2_with fail
 refine y.o.mono ?_;rintro e W ⟨aH,rfl,aB,af⟩;have aq:=Hd af;clear af y;rcases aB with ⟨N,aF,c,rfl⟩|⟨g,c,rfl,F,I,M,Q,H,D⟩
 ·have ae:=Hd N;clear N;go_wp2
  go_loopw [11] (fun t wr=>t=.int .i64 0/\wr=W) (fun _ _=>0)
  case atStart=>exact ⟨rfl,rfl⟩
  case round=>
   obtain ⟨rfl,rfl⟩:=hrel;go_wp2;go_ret;exact ⟨_,rfl,by rw [ae.o];exact .inl ⟨_,_,rfl,rfl⟩,aq.o⟩
 have b:CInv 3 FldR w.heap.size g 0 W l:=Cloned.inv F I H D;have aa:=Hd b;have ab:=Hd M;have ak:=Hd Q;clear b F I M Q H D;rw [←U.o];go_wp2
 go_loopw [11] (fun t wr=>∃ k:Nat,k<=m/\t=.int .i64 k/\CInv 3 FldR w.heap.size g k wr l/\Below w.heap.size w wr) (fun t _=>m - (intOf t).toNat)
 case atStart=>exact ⟨0,Yai _,rfl,aa.o,aq.o⟩
 case round=>
  obtain ⟨k,X,rfl,b,E⟩:=hrel;have h:=Hd b;have d:=Hd E;clear b E aa;by_cases aD:k<m
  ·have J:k<l.length:=by have:=U.o;omega
   obtain ⟨x,z⟩:∃ x,l[k]? = some x:=⟨_,Yaa J⟩
   have ad:=Hd z;obtain ⟨u,am,ag,q⟩:=h.o.elem z;have G:=am;obtain rfl:=am;have aA:wr.cell? ⟨g,k * 3,none⟩=some (.string (S x.name)):=q 0 (.string (S x.name)) rfl;have az:wr.cell? ⟨g,k * 3+1,none⟩=some (.string (S x.kind)):=q 1 (.string (S x.kind)) rfl;have av:wr.cell? ⟨g,k * 3+2,none⟩=some (.bool x.tr):=q 2 (.bool x.tr) rfl;have p:Below wr.heap.size wr (wr.alloc (.cells #[.string (S x.name),.string (S x.kind),.bool x.tr] 99)):=Zaa (Yab _ _) _;have r:=Hd p;have K:Hid (Calls Tryz.prog Z (#[.agg #[.string (S x.name),.string (S x.kind),.bool x.tr]]++j) (wr.alloc (.cells #[.string (S x.name),.string (S x.kind),.bool x.tr] 99)) (fun e al=>∃ B,e=.returned B/\FldR (fun i=>(wr.alloc (.cells #[.string (S x.name),.string (S x.kind),.bool x.tr] 99)).heap.size<=i) al x B/\Below (wr.alloc (.cells #[.string (S x.name),.string (S x.kind),.bool x.tr] 99)).heap.size (wr.alloc (.cells #[.string (S x.name),.string (S x.kind),.bool x.tr] 99)) al)):=Hd (au.o x _ (wr.alloc (.cells #[.string (S x.name),.string (S x.kind),.bool x.tr] 99)) (Yaf z) (d.o.trans (p.mono d.o.size)) (FldR.st.keep G (Yad (S:=fun _=>False) p) (fun _ _=>id)));clear z q ag J p G;have aC:(0:Int)<=k:=by omega
   have aE:(k:Int)<(m:Int):=by omega
   have v:=ay.o
   go_wp2_with fail
   refine K.o.mono ?_;rintro e w2 ⟨B,rfl,ao,L⟩;have n:=Hd (r.o.trans (L.mono r.o.size));have Y:Hid (FldR (fun i=>wr.heap.size<=i) w2 x B):=Hd (FldR.st.mono ao (fun i _ V=>Yaq r.o.size V));obtain rfl:=ao;have a:=h.o.only FldR.st n.o;have O:=h.o.store FldR.st n.o ad.o Y.o rfl;have C:Below w.heap.size w (setRow w2 g (k * 3) [.string (S x.name),.string (S x.kind),.bool x.tr]):=(d.o.trans (n.o.mono d.o.size)).trans ((ZbD (S:=fun i=>i=g) _ _ _ _ (Yan _ _) rfl).below (Yaq d.o.size n.o.size) (fun i V=>by subst V;exact h.o.ge));have ai:=Hd O;have ac:=Hd C;obtain ⟨aP,ar,R,f⟩:=a.elem ad.o;obtain rfl:=ar;have aJ:w2.cell? ⟨g,k * 3,none⟩=some (.string (S x.name)):=f 0 (.string (S x.name)) rfl;have aI:w2.frozen? ⟨g,k * 3,none⟩=false:=a.free _;have aO:w2.cell? ⟨g,k * 3+1,none⟩=some (.string (S x.kind)):=f 1 (.string (S x.kind)) rfl;have aN:w2.frozen? ⟨g,k * 3+1,none⟩=false:=a.free _;have aK:w2.cell? ⟨g,k * 3+2,none⟩=some (.bool x.tr):=f 2 (.bool x.tr) rfl;have aG:w2.frozen? ⟨g,k * 3+2,none⟩=false:=a.free _;clear v a O C L f R K aA az av;go_wp2
   go_roundw
   case rel=>
    have ax:CInv 3 FldR w.heap.size g (k+1) (((w2.setCell ⟨g,k * 3,none⟩ (.string (S x.name))).setCell ⟨g,k * 3+1,none⟩ (.string (S x.kind))).setCell ⟨g,k * 3+2,none⟩ (.bool x.tr)) l:=ai.o;have aw:Below w.heap.size w (((w2.setCell ⟨g,k * 3,none⟩ (.string (S x.name))).setCell ⟨g,k * 3+1,none⟩ (.string (S x.kind))).setCell ⟨g,k * 3+2,none⟩ (.bool x.tr)):=ac.o;exact ⟨k+1,by omega,by go_num,ax,aw⟩
   case measure=>simp [intOf];omega
  ·obtain rfl:m=k:=by omega
   go_wp2;go_ret;refine ⟨_,rfl,?_,d.o⟩;have ap:=h.o;rw [U.o] at ap ⊢;exact ap.done FldR.st ab.o ak.o
theorem Zmv:(Tryz.prog.info? 48).map (fun i=>(i.zero,i.size,i.bytes))=some (some (.agg #[.string ⟨#[]⟩,.int .i64 0,.string ⟨#[]⟩]),3,40):=by kernel_rfl
theorem ZoQ {A:Nat->Prop} {w:World}:∀ x v,InsR A w x v->∀ u ∈ v.cells.toList,u.oneCell'=true:=fun x v b u a=>by
 obtain rfl:=b;simp [Value.cells] at a
 rcases a with rfl|rfl|rfl <;> rfl
theorem Zi3 {A:Nat->Prop} (l:List (Ins)) (sv:Value) (w:World) (i:Src 3 InsR A w sv l) (r:l.length<=1048576):Calls Tryz.prog 244 #[sv] w (ZcZ 3 InsR A l w):=by
 obtain ⟨z,h,j,f,g⟩:=info_parts Zmv;have d:=Hd (fun ty=>Zdz (P:=Tryz.prog) (w:=w) (n:=3) (by decide) InsR.st (fun x v m=>ZoQ x v m) 37 ty 48 z _ 40 Tryz.underlying37 h j f g rfl i (by omega) (by omega));obtain ⟨s,D,rfl⟩:=i.shape;cases s with
 | none=>
  have p:l=[]:=by
   rcases i with ⟨_,_,_,m⟩|⟨b,o,c,m,_⟩
   ·exact m
   ·simp at m
  subst p;have u:=fun n c=>Lib.run_eql_slice_nil (P:=Tryz.prog) w 37 48 none n c 0 0 Tryz.underlying37
  clear d i h j f g r;go_enter Tryz.func244,Tryz.ntmps244;go_wp2;go_ret;exact ⟨_,rfl,.inl ⟨rfl,_,_,rfl⟩,Yab _ _⟩
 | some a=>
  generalize q:l.length=t at d ⊢;have u:=Lib.run_eql_slice_nil (P:=Tryz.prog) w 37 48 (some a) t D 0 0 Tryz.underlying37;clear q;clear i h j f g r;go_enter Tryz.func244,Tryz.ntmps244
  go_wp2_with (at_builtin;(obtain ⟨B,w',k,C,y⟩:=d.o _;refine Zak rfl _ _ 37 rfl _ _ B w' rfl rfl k ?_))
  go_ret;exact ⟨_,rfl,C,y⟩
theorem ZlV {A:Nat->Prop} (ab:Nat) (j:Array Value) (z:∀ args w,(callFunc ab args).run Tryz.prog w=.ok (.enter ab args) w) (l:List (Ins)) (sv:Value) (w:World) (R:Src 3 InsR A w sv l) (aj:l.length<=1048576) (al:Zfy InsR ab j l w) :
  Calls Tryz.prog 219 #[sv,.func (.func ab) #[] j] w (Zb2 3 InsR l w):=by
 have V:Src 3 InsR (fun i=>i<w.heap.size) w sv l:=InsR.st.srcMono R (fun k Z _=>Z);have B:=Hd (Zi3 l sv w V aj);unfold ZcZ at B;obtain ⟨aO,aN,rfl⟩:=V.shape;have aA:=Hd z;have aw:=Hd al;clear z al V R;obtain ⟨m,v⟩:∃ m,m=l.length:=⟨_,rfl⟩
 have W:=Hd v;rw [←v] at B aj ⊢;clear v;go_enter Tryz.func219,Tryz.ntmps219
 go_wp2_with fail
 refine B.o.mono ?_;rintro e Y ⟨aJ,rfl,aD,ah⟩;have au:=Hd ah;clear ah B;rcases aD with ⟨P,aH,c,rfl⟩|⟨g,c,rfl,H,K,O,T,J,F⟩
 ·have ag:=Hd P;clear P;go_wp2
  go_loopw [11] (fun y wr=>y=.int .i64 0/\wr=Y) (fun _ _=>0)
  case atStart=>exact ⟨rfl,rfl⟩
  case round=>
   obtain ⟨rfl,rfl⟩:=hrel;go_wp2;go_ret;exact ⟨_,rfl,by rw [ag.o];exact .inl ⟨_,_,rfl,rfl⟩,au.o⟩
 have b:CInv 3 InsR w.heap.size g 0 Y l:=Cloned.inv H K J F;have ac:=Hd b;have ad:=Hd O;have am:=Hd T;clear b H K O T J F;rw [←W.o];go_wp2
 go_loopw [11] (fun y wr=>∃ k:Nat,k<=m/\y=.int .i64 k/\CInv 3 InsR w.heap.size g k wr l/\Below w.heap.size w wr) (fun y _=>m - (intOf y).toNat)
 case atStart=>exact ⟨0,Yai _,rfl,ac.o,au.o⟩
 case round=>
  obtain ⟨k,Z,rfl,b,G⟩:=hrel;have h:=Hd b;have d:=Hd G;clear b G ac;by_cases aF:k<m
  ·have L:k<l.length:=by have:=W.o;omega
   obtain ⟨x,C⟩:∃ x,l[k]? = some x:=⟨_,Yaa L⟩
   have af:=Hd C;obtain ⟨u,ap,ai,r⟩:=h.o.elem C;have I:=ap;obtain rfl:=ap;have aC:wr.cell? ⟨g,k * 3,none⟩=some (.string (S x.op)):=r 0 (.string (S x.op)) rfl;have aB:wr.cell? ⟨g,k * 3+1,none⟩=some (.int .i64 x.n):=r 1 (.int .i64 x.n) rfl;have ax:wr.cell? ⟨g,k * 3+2,none⟩=some (.string (S x.s)):=r 2 (.string (S x.s)) rfl;have q:Below wr.heap.size wr (wr.alloc (.cells #[.string (S x.op),.int .i64 x.n,.string (S x.s)] 48)):=Zaa (Yab _ _) _;have t:=Hd q;have M:Hid (Calls Tryz.prog ab (#[.agg #[.string (S x.op),.int .i64 x.n,.string (S x.s)]]++j) (wr.alloc (.cells #[.string (S x.op),.int .i64 x.n,.string (S x.s)] 48)) (fun e ao=>∃ D,e=.returned D/\InsR (fun i=>(wr.alloc (.cells #[.string (S x.op),.int .i64 x.n,.string (S x.s)] 48)).heap.size<=i) ao x D/\Below (wr.alloc (.cells #[.string (S x.op),.int .i64 x.n,.string (S x.s)] 48)).heap.size (wr.alloc (.cells #[.string (S x.op),.int .i64 x.n,.string (S x.s)] 48)) ao)):=Hd (aw.o x _ (wr.alloc (.cells #[.string (S x.op),.int .i64 x.n,.string (S x.s)] 48)) (Yaf C) (d.o.trans (q.mono d.o.size)) (InsR.st.keep I (Yad (S:=fun _=>False) q) (fun _ _=>id)));clear C r ai L q I;have aE:(0:Int)<=k:=by omega
   have aG:(k:Int)<(m:Int):=by omega
   have z:=aA.o
   go_wp2_with fail
   refine M.o.mono ?_;rintro e w2 ⟨D,rfl,aq,N⟩;have p:=Hd (t.o.trans (N.mono t.o.size));have aa:Hid (InsR (fun i=>wr.heap.size<=i) w2 x D):=Hd (InsR.st.mono aq (fun i _ X=>Yaq t.o.size X));obtain rfl:=aq;have a:=h.o.only InsR.st p.o;have Q:=h.o.store InsR.st p.o af.o aa.o rfl;have E:Below w.heap.size w (setRow w2 g (k * 3) [.string (S x.op),.int .i64 x.n,.string (S x.s)]):=(d.o.trans (p.o.mono d.o.size)).trans ((ZbD (S:=fun i=>i=g) _ _ _ _ (Yan _ _) rfl).below (Yaq d.o.size p.o.size) (fun i X=>by subst X;exact h.o.ge));have ak:=Hd Q;have ae:=Hd E;obtain ⟨aR,av,U,f⟩:=a.elem af.o;obtain rfl:=av;have aL:w2.cell? ⟨g,k * 3,none⟩=some (.string (S x.op)):=f 0 (.string (S x.op)) rfl;have aK:w2.frozen? ⟨g,k * 3,none⟩=false:=a.free _;have aQ:w2.cell? ⟨g,k * 3+1,none⟩=some (.int .i64 x.n):=f 1 (.int .i64 x.n) rfl;have aP:w2.frozen? ⟨g,k * 3+1,none⟩=false:=a.free _;have aM:w2.cell? ⟨g,k * 3+2,none⟩=some (.string (S x.s)):=f 2 (.string (S x.s)) rfl;have aI:w2.frozen? ⟨g,k * 3+2,none⟩=false:=a.free _;clear z a Q E N f U M aC aB ax;go_wp2
   go_roundw
   case rel=>
    have az:CInv 3 InsR w.heap.size g (k+1) (((w2.setCell ⟨g,k * 3,none⟩ (.string (S x.op))).setCell ⟨g,k * 3+1,none⟩ (.int .i64 x.n)).setCell ⟨g,k * 3+2,none⟩ (.string (S x.s))) l:=ak.o;have ay:Below w.heap.size w (((w2.setCell ⟨g,k * 3,none⟩ (.string (S x.op))).setCell ⟨g,k * 3+1,none⟩ (.int .i64 x.n)).setCell ⟨g,k * 3+2,none⟩ (.string (S x.s))):=ae.o;exact ⟨k+1,by omega,by go_num,az,ay⟩
   case measure=>simp [intOf];omega
  ·obtain rfl:m=k:=by omega
   go_wp2;go_ret;refine ⟨_,rfl,?_,d.o⟩;have ar:=h.o;rw [W.o] at ar ⊢;exact ar.done InsR.st ad.o am.o
theorem Zmt:(Tryz.prog.info? 185).map (fun i=>(i.zero,i.size,i.bytes))=some (some (.agg #[.int .i64 0,.int .i64 0,.int .i64 0,.string ⟨#[]⟩]),4,40):=by kernel_rfl
theorem ZoO {A:Nat->Prop} {w:World}:∀ x v,CatR A w x v->∀ u ∈ v.cells.toList,u.oneCell'=true:=fun x v b u a=>by
 obtain rfl:=b;simp [Value.cells] at a
 rcases a with rfl|rfl|rfl|rfl <;> rfl
theorem Zi1 {A:Nat->Prop} (l:List (Cat)) (sv:Value) (w:World) (i:Src 4 CatR A w sv l) (r:l.length<=1048576):Calls Tryz.prog 245 #[sv] w (ZcZ 4 CatR A l w):=by
 obtain ⟨z,h,j,f,g⟩:=info_parts Zmt;have d:=Hd (fun ty=>Zdz (P:=Tryz.prog) (w:=w) (n:=4) (by decide) CatR.st (fun x v m=>ZoO x v m) 42 ty 185 z _ 40 Tryz.underlying42 h j f g rfl i (by omega) (by omega));obtain ⟨s,D,rfl⟩:=i.shape;cases s with
 | none=>
  have p:l=[]:=by
   rcases i with ⟨_,_,_,m⟩|⟨b,o,c,m,_⟩
   ·exact m
   ·simp at m
  subst p;have u:=fun n c=>Lib.run_eql_slice_nil (P:=Tryz.prog) w 42 185 none n c 0 0 Tryz.underlying42
  clear d i h j f g r;go_enter Tryz.func245,Tryz.ntmps245;go_wp2;go_ret;exact ⟨_,rfl,.inl ⟨rfl,_,_,rfl⟩,Yab _ _⟩
 | some a=>
  generalize q:l.length=t at d ⊢;have u:=Lib.run_eql_slice_nil (P:=Tryz.prog) w 42 185 (some a) t D 0 0 Tryz.underlying42;clear q;clear i h j f g r;go_enter Tryz.func245,Tryz.ntmps245
  go_wp2_with (at_builtin;(obtain ⟨B,w',k,C,y⟩:=d.o _;refine Zak rfl _ _ 42 rfl _ _ B w' rfl rfl k ?_))
  go_ret;exact ⟨_,rfl,C,y⟩
theorem ZlT {A:Nat->Prop} (Z:Nat) (m:Array Value) (v:∀ args w,(callFunc Z args).run Tryz.prog w=.ok (.enter Z args) w) (l:List (Cat)) (sv:Value) (w:World) (P:Src 4 CatR A w sv l) (ah:l.length<=1048576) (aj:Zfy CatR Z m l w) :
  Calls Tryz.prog 221 #[sv,.func (.func Z) #[] m] w (Zb2 4 CatR l w):=by
 have T:Src 4 CatR (fun i=>i<w.heap.size) w sv l:=CatR.st.srcMono P (fun k X _=>X);have y:=Hd (Zi1 l sv w T ah);unfold ZcZ at y;obtain ⟨aO,aM,rfl⟩:=T.shape;have az:=Hd v;have au:=Hd aj;clear v aj T P;obtain ⟨n,s⟩:∃ n,n=l.length:=⟨_,rfl⟩
 have U:=Hd s;rw [←s] at y ah ⊢;clear s;go_enter Tryz.func221,Tryz.ntmps221
 go_wp2_with fail
 refine y.o.mono ?_;rintro e W ⟨aI,rfl,aC,af⟩;have aq:=Hd af;clear af y;rcases aC with ⟨N,aG,c,rfl⟩|⟨g,c,rfl,F,I,M,Q,H,D⟩
 ·have ae:=Hd N;clear N;go_wp2
  go_loopw [11] (fun t wr=>t=.int .i64 0/\wr=W) (fun _ _=>0)
  case atStart=>exact ⟨rfl,rfl⟩
  case round=>
   obtain ⟨rfl,rfl⟩:=hrel;go_wp2;go_ret;exact ⟨_,rfl,by rw [ae.o];exact .inl ⟨_,_,rfl,rfl⟩,aq.o⟩
 have d:CInv 4 CatR w.heap.size g 0 W l:=Cloned.inv F I H D;have aa:=Hd d;have ab:=Hd M;have ak:=Hd Q;clear d F I M Q H D;rw [←U.o];go_wp2
 go_loopw [11] (fun t wr=>∃ k:Nat,k<=n/\t=.int .i64 k/\CInv 4 CatR w.heap.size g k wr l/\Below w.heap.size w wr) (fun t _=>n - (intOf t).toNat)
 case atStart=>exact ⟨0,Yai _,rfl,aa.o,aq.o⟩
 case round=>
  obtain ⟨k,X,rfl,d,E⟩:=hrel;have h:=Hd d;have f:=Hd E;clear d E aa;by_cases aE:k<n
  ·have J:k<l.length:=by have:=U.o;omega
   obtain ⟨x,z⟩:∃ x,l[k]? = some x:=⟨_,Yaa J⟩
   have ad:=Hd z;obtain ⟨u,am,ag,j⟩:=h.o.elem z;have G:=am;obtain rfl:=am;have aB:wr.cell? ⟨g,k * 4,none⟩=some (.int .i64 x.fr):=j 0 (.int .i64 x.fr) rfl;have aA:wr.cell? ⟨g,k * 4+1,none⟩=some (.int .i64 x.till):=j 1 (.int .i64 x.till) rfl;have av:wr.cell? ⟨g,k * 4+2,none⟩=some (.int .i64 x.at_):=j 2 (.int .i64 x.at_) rfl;have ax:wr.cell? ⟨g,k * 4+3,none⟩=some (.string (S x.cls)):=j 3 (.string (S x.cls)) rfl;have q:Below wr.heap.size wr (wr.alloc (.cells #[.int .i64 x.fr,.int .i64 x.till,.int .i64 x.at_,.string (S x.cls)] 185)):=Zaa (Yab _ _) _;have r:=Hd q;have K:Hid (Calls Tryz.prog Z (#[.agg #[.int .i64 x.fr,.int .i64 x.till,.int .i64 x.at_,.string (S x.cls)]]++m) (wr.alloc (.cells #[.int .i64 x.fr,.int .i64 x.till,.int .i64 x.at_,.string (S x.cls)] 185)) (fun e al=>∃ B,e=.returned B/\CatR (fun i=>(wr.alloc (.cells #[.int .i64 x.fr,.int .i64 x.till,.int .i64 x.at_,.string (S x.cls)] 185)).heap.size<=i) al x B/\Below (wr.alloc (.cells #[.int .i64 x.fr,.int .i64 x.till,.int .i64 x.at_,.string (S x.cls)] 185)).heap.size (wr.alloc (.cells #[.int .i64 x.fr,.int .i64 x.till,.int .i64 x.at_,.string (S x.cls)] 185)) al)):=Hd (au.o x _ (wr.alloc (.cells #[.int .i64 x.fr,.int .i64 x.till,.int .i64 x.at_,.string (S x.cls)] 185)) (Yaf z) (f.o.trans (q.mono f.o.size)) (CatR.st.keep G (Yad (S:=fun _=>False) q) (fun _ _=>id)));clear z j ag J q G;have aD:(0:Int)<=k:=by omega
   have aF:(k:Int)<(n:Int):=by omega
   have v:=az.o
   go_wp2_with fail
   refine K.o.mono ?_;rintro e w2 ⟨B,rfl,ao,L⟩;have p:=Hd (r.o.trans (L.mono r.o.size));have Y:Hid (CatR (fun i=>wr.heap.size<=i) w2 x B):=Hd (CatR.st.mono ao (fun i _ V=>Yaq r.o.size V));obtain rfl:=ao;have a:=h.o.only CatR.st p.o;have O:=h.o.store CatR.st p.o ad.o Y.o rfl;have C:Below w.heap.size w (setRow w2 g (k * 4) [.int .i64 x.fr,.int .i64 x.till,.int .i64 x.at_,.string (S x.cls)]):=(f.o.trans (p.o.mono f.o.size)).trans ((ZbD (S:=fun i=>i=g) _ _ _ _ (Yan _ _) rfl).below (Yaq f.o.size p.o.size) (fun i V=>by subst V;exact h.o.ge));have ai:=Hd O;have ac:=Hd C;obtain ⟨aS,ar,R,b⟩:=a.elem ad.o;obtain rfl:=ar;have aK:w2.cell? ⟨g,k * 4,none⟩=some (.int .i64 x.fr):=b 0 (.int .i64 x.fr) rfl;have aJ:w2.frozen? ⟨g,k * 4,none⟩=false:=a.free _;have aR:w2.cell? ⟨g,k * 4+1,none⟩=some (.int .i64 x.till):=b 1 (.int .i64 x.till) rfl;have aQ:w2.frozen? ⟨g,k * 4+1,none⟩=false:=a.free _;have aL:w2.cell? ⟨g,k * 4+2,none⟩=some (.int .i64 x.at_):=b 2 (.int .i64 x.at_) rfl;have aH:w2.frozen? ⟨g,k * 4+2,none⟩=false:=a.free _;have aN:w2.cell? ⟨g,k * 4+3,none⟩=some (.string (S x.cls)):=b 3 (.string (S x.cls)) rfl;have aP:w2.frozen? ⟨g,k * 4+3,none⟩=false:=a.free _;clear v a O C L b R K aB aA av ax;go_wp2
   go_roundw
   case rel=>
    have ay:CInv 4 CatR w.heap.size g (k+1) ((((w2.setCell ⟨g,k * 4,none⟩ (.int .i64 x.fr)).setCell ⟨g,k * 4+1,none⟩ (.int .i64 x.till)).setCell ⟨g,k * 4+2,none⟩ (.int .i64 x.at_)).setCell ⟨g,k * 4+3,none⟩ (.string (S x.cls))) l:=ai.o;have aw:Below w.heap.size w ((((w2.setCell ⟨g,k * 4,none⟩ (.int .i64 x.fr)).setCell ⟨g,k * 4+1,none⟩ (.int .i64 x.till)).setCell ⟨g,k * 4+2,none⟩ (.int .i64 x.at_)).setCell ⟨g,k * 4+3,none⟩ (.string (S x.cls))):=ac.o;exact ⟨k+1,by omega,by go_num,ay,aw⟩
   case measure=>simp [intOf];omega
  ·obtain rfl:n=k:=by omega
   go_wp2;go_ret;refine ⟨_,rfl,?_,f.o⟩;have ap:=h.o;rw [U.o] at ap ⊢;exact ap.done CatR.st ab.o ak.o
theorem Zmw:(Tryz.prog.info? 44).map (fun i=>(i.zero,i.size,i.bytes))=some (some (.agg #[.string ⟨#[]⟩,.slice none 0 0,.string ⟨#[]⟩,.bool false,.int .i64 0,.slice none 0 0,.slice none 0 0]),7,120):=by kernel_rfl
theorem ZoR {A:Nat->Prop} {w:World}:∀ x v,MthR A w x v->∀ u ∈ v.cells.toList,u.oneCell'=true:=fun x v b u a=>by
 obtain ⟨h,d,c,rfl,⟨f,k,rfl⟩,⟨i,g,rfl⟩,⟨j,l,rfl⟩⟩:=Zam b;simp [Value.cells] at a
 rcases a with rfl|rfl|rfl|rfl|rfl|rfl|rfl <;> rfl
theorem Zi4 {A:Nat->Prop} (l:List (Mth)) (sv:Value) (w:World) (i:Src 7 MthR A w sv l) (r:l.length<=1048576):Calls Tryz.prog 218 #[sv] w (ZcZ 7 MthR A l w):=by
 obtain ⟨z,h,j,f,g⟩:=info_parts Zmw;have d:=Hd (fun ty=>Zdz (P:=Tryz.prog) (w:=w) (n:=7) (by decide) MthR.st (fun x v m=>ZoR x v m) 85 ty 44 z _ 120 Tryz.underlying85 h j f g rfl i (by omega) (by omega));obtain ⟨s,D,rfl⟩:=i.shape;cases s with
 | none=>
  have p:l=[]:=by
   rcases i with ⟨_,_,_,m⟩|⟨b,o,c,m,_⟩
   ·exact m
   ·simp at m
  subst p;have u:=fun n c=>Lib.run_eql_slice_nil (P:=Tryz.prog) w 85 44 none n c 0 0 Tryz.underlying85
  clear d i h j f g r;go_enter Tryz.func218,Tryz.ntmps218;go_wp2;go_ret;exact ⟨_,rfl,.inl ⟨rfl,_,_,rfl⟩,Yab _ _⟩
 | some a=>
  generalize q:l.length=t at d ⊢;have u:=Lib.run_eql_slice_nil (P:=Tryz.prog) w 85 44 (some a) t D 0 0 Tryz.underlying85;clear q;clear i h j f g r;go_enter Tryz.func218,Tryz.ntmps218
  go_wp2_with (at_builtin;(obtain ⟨B,w',k,C,y⟩:=d.o _;refine Zak rfl _ _ 85 rfl _ _ B w' rfl rfl k ?_))
  go_ret;exact ⟨_,rfl,C,y⟩
theorem ZlW {A:Nat->Prop} (ay:Nat) (t:Array Value) (K:∀ args w,(callFunc ay args).run Tryz.prog w=.ok (.enter ay args) w) (l:List (Mth)) (sv:Value) (w:World) (ai:Src 7 MthR A w sv l) (aI:l.length<=1048576) (aK:Zfy MthR ay t l w) :
  Calls Tryz.prog 166 #[sv,.func (.func ay) #[] t] w (Zb2 7 MthR l w):=by
 have ao:Src 7 MthR (fun i=>i<w.heap.size) w sv l:=MthR.st.srcMono ai (fun k aw _=>aw);have L:=Hd (Zi4 l sv w ao aI);unfold ZcZ at L;obtain ⟨bg,bd,rfl⟩:=ao.shape;have aZ:=Hd K;have aR:=Hd aK;clear K aK ao ai;obtain ⟨v,E⟩:∃ v,v=l.length:=⟨_,rfl⟩
 have ap:=Hd E;rw [←E] at L aI ⊢;clear E;go_enter Tryz.func166,Tryz.ntmps166
 go_wp2_with fail
 refine L.o.mono ?_;rintro e au ⟨a8,rfl,a2,aF⟩;have aP:=Hd aF;clear aF L;rcases a2 with ⟨ae,a6,c,rfl⟩|⟨g,c,rfl,R,V,ad,ak,U,P⟩
 ·have aE:=Hd ae;clear ae;go_wp2
  go_loopw [11] (fun G wr=>G=.int .i64 0/\wr=au) (fun _ _=>0)
  case atStart=>exact ⟨rfl,rfl⟩
  case round=>
   obtain ⟨rfl,rfl⟩:=hrel;go_wp2;go_ret;exact ⟨_,rfl,by rw [aE.o];exact .inl ⟨_,_,rfl,rfl⟩,aP.o⟩
 have q:CInv 7 MthR w.heap.size g 0 au l:=Cloned.inv R V U P;have az:=Hd q;have aA:=Hd ad;have aL:=Hd ak;clear q R V ad ak U P;rw [←ap.o];go_wp2
 go_loopw [11] (fun G wr=>∃ k:Nat,k<=v/\G=.int .i64 k/\CInv 7 MthR w.heap.size g k wr l/\Below w.heap.size w wr) (fun G _=>v - (intOf G).toNat)
 case atStart=>exact ⟨0,Yai _,rfl,az.o,aP.o⟩
 case round=>
  obtain ⟨k,aw,rfl,q,Q⟩:=hrel;have s:=Hd q;have r:=Hd Q;clear q Q az;by_cases a4:k<v
  ·have X:k<l.length:=by have:=ap.o;omega
   obtain ⟨x,M⟩:∃ x,l[k]? = some x:=⟨_,Yaa X⟩
   have aD:=Hd M;obtain ⟨u,aN,aH,p⟩:=s.o.elem M;have T:=aN;obtain ⟨aG,aQ,av,rfl,⟨n,f,rfl⟩,⟨d,m,rfl⟩,⟨h,j,rfl⟩⟩:=Zam aN;have a1:wr.cell? ⟨g,k * 7,none⟩=some (.string (S x.name)):=p 0 (.string (S x.name)) rfl;have a0:wr.cell? ⟨g,k * 7+1,none⟩=some (.slice n x.params.length f):=p 1 (.slice n x.params.length f) rfl;have aT:wr.cell? ⟨g,k * 7+2,none⟩=some (.string (S x.res)):=p 2 (.string (S x.res)) rfl;have aX:wr.cell? ⟨g,k * 7+3,none⟩=some (.bool x.abs):=p 3 (.bool x.abs) rfl;have aU:wr.cell? ⟨g,k * 7+4,none⟩=some (.int .i64 x.loc):=p 4 (.int .i64 x.loc) rfl;have aV:wr.cell? ⟨g,k * 7+5,none⟩=some (.slice d x.code.length m):=p 5 (.slice d x.code.length m) rfl;have aS:wr.cell? ⟨g,k * 7+6,none⟩=some (.slice h x.cats.length j):=p 6 (.slice h x.cats.length j) rfl;have z:Below wr.heap.size wr (wr.alloc (.cells #[.string (S x.name),.slice n x.params.length f,.string (S x.res),.bool x.abs,.int .i64 x.loc,.slice d x.code.length m,.slice h x.cats.length j] 44)):=Zaa (Yab _ _) _;have B:=Hd z;have Z:Hid (Calls Tryz.prog ay (#[.agg #[.string (S x.name),.slice n x.params.length f,.string (S x.res),.bool x.abs,.int .i64 x.loc,.slice d x.code.length m,.slice h x.cats.length j]]++t) (wr.alloc (.cells #[.string (S x.name),.slice n x.params.length f,.string (S x.res),.bool x.abs,.int .i64 x.loc,.slice d x.code.length m,.slice h x.cats.length j] 44)) (fun e aM=>∃ N,e=.returned N/\MthR (fun i=>(wr.alloc (.cells #[.string (S x.name),.slice n x.params.length f,.string (S x.res),.bool x.abs,.int .i64 x.loc,.slice d x.code.length m,.slice h x.cats.length j] 44)).heap.size<=i) aM x N/\Below (wr.alloc (.cells #[.string (S x.name),.slice n x.params.length f,.string (S x.res),.bool x.abs,.int .i64 x.loc,.slice d x.code.length m,.slice h x.cats.length j] 44)).heap.size (wr.alloc (.cells #[.string (S x.name),.slice n x.params.length f,.string (S x.res),.bool x.abs,.int .i64 x.loc,.slice d x.code.length m,.slice h x.cats.length j] 44)) aM)):=Hd (aR.o x _ (wr.alloc (.cells #[.string (S x.name),.slice n x.params.length f,.string (S x.res),.bool x.abs,.int .i64 x.loc,.slice d x.code.length m,.slice h x.cats.length j] 44)) (Yaf M) (r.o.trans (z.mono r.o.size)) (MthR.st.keep T (Yad (S:=fun _=>False) z) (fun _ _=>id)));clear M p aH X z T;have a3:(0:Int)<=k:=by omega
   have a5:(k:Int)<(v:Int):=by omega
   have K:=aZ.o
   go_wp2_with fail
   refine Z.o.mono ?_;rintro e w2 ⟨N,rfl,ar,ab⟩;have y:=Hd (B.o.trans (ab.mono B.o.size));have ax:Hid (MthR (fun i=>wr.heap.size<=i) w2 x N):=Hd (MthR.st.mono ar (fun i _ aq=>Yaq B.o.size aq));have aC:=ar;obtain ⟨aG,aQ,av,rfl,⟨I,H,rfl⟩,⟨C,D,rfl⟩,⟨F,J,rfl⟩⟩:=Zam ar;have a:=s.o.only MthR.st y.o;have af:=s.o.store MthR.st y.o aD.o ax.o rfl;have O:Below w.heap.size w (setRow w2 g (k * 7) [.string (S x.name),.slice I x.params.length H,.string (S x.res),.bool x.abs,.int .i64 x.loc,.slice C x.code.length D,.slice F x.cats.length J]):=(r.o.trans (y.o.mono r.o.size)).trans ((ZbD (S:=fun i=>i=g) _ _ _ _ (Yan _ _) rfl).below (Yaq r.o.size y.o.size) (fun i aq=>by subst aq;exact s.o.ge));have aJ:=Hd af;have aB:=Hd O;obtain ⟨bo,aj,al,b⟩:=a.elem aD.o;have am:=aj;obtain ⟨aG,aQ,av,rfl,⟨ac,ag,rfl⟩,⟨aa,Y,rfl⟩,⟨W,ah,rfl⟩⟩:=Zam aj;have bb:w2.cell? ⟨g,k * 7,none⟩=some (.string (S x.name)):=b 0 (.string (S x.name)) rfl;have ba:w2.frozen? ⟨g,k * 7,none⟩=false:=a.free _;have bk:w2.cell? ⟨g,k * 7+1,none⟩=some (.slice ac x.params.length ag):=b 1 (.slice ac x.params.length ag) rfl;have bj:w2.frozen? ⟨g,k * 7+1,none⟩=false:=a.free _;have bc:w2.cell? ⟨g,k * 7+2,none⟩=some (.string (S x.res)):=b 2 (.string (S x.res)) rfl;have a7:w2.frozen? ⟨g,k * 7+2,none⟩=false:=a.free _;have bf:w2.cell? ⟨g,k * 7+3,none⟩=some (.bool x.abs):=b 3 (.bool x.abs) rfl;have bh:w2.frozen? ⟨g,k * 7+3,none⟩=false:=a.free _;have bm:w2.cell? ⟨g,k * 7+4,none⟩=some (.int .i64 x.loc):=b 4 (.int .i64 x.loc) rfl;have bn:w2.frozen? ⟨g,k * 7+4,none⟩=false:=a.free _;have bi:w2.cell? ⟨g,k * 7+5,none⟩=some (.slice aa x.code.length Y):=b 5 (.slice aa x.code.length Y) rfl;have bl:w2.frozen? ⟨g,k * 7+5,none⟩=false:=a.free _;have bp:w2.cell? ⟨g,k * 7+6,none⟩=some (.slice W x.cats.length ah):=b 6 (.slice W x.cats.length ah) rfl;have a9:w2.frozen? ⟨g,k * 7+6,none⟩=false:=a.free _;clear K a af O ab b al Z a1 a0 aT aX aU aV aS aC am;go_wp2
   go_roundw
   case rel=>
    have aY:CInv 7 MthR w.heap.size g (k+1) (((((((w2.setCell ⟨g,k * 7,none⟩ (.string (S x.name))).setCell ⟨g,k * 7+1,none⟩ (.slice I x.params.length H)).setCell ⟨g,k * 7+2,none⟩ (.string (S x.res))).setCell ⟨g,k * 7+3,none⟩ (.bool x.abs)).setCell ⟨g,k * 7+4,none⟩ (.int .i64 x.loc)).setCell ⟨g,k * 7+5,none⟩ (.slice C x.code.length D)).setCell ⟨g,k * 7+6,none⟩ (.slice F x.cats.length J)) l:=aJ.o;have aW:Below w.heap.size w (((((((w2.setCell ⟨g,k * 7,none⟩ (.string (S x.name))).setCell ⟨g,k * 7+1,none⟩ (.slice I x.params.length H)).setCell ⟨g,k * 7+2,none⟩ (.string (S x.res))).setCell ⟨g,k * 7+3,none⟩ (.bool x.abs)).setCell ⟨g,k * 7+4,none⟩ (.int .i64 x.loc)).setCell ⟨g,k * 7+5,none⟩ (.slice C x.code.length D)).setCell ⟨g,k * 7+6,none⟩ (.slice F x.cats.length J)):=aB.o;exact ⟨k+1,by omega,by go_num,aY,aW⟩
   case measure=>simp [intOf];omega
  ·obtain rfl:v=k:=by omega
   go_wp2;go_ret;refine ⟨_,rfl,?_,r.o⟩;have aO:=s.o;rw [ap.o] at aO ⊢;exact aO.done MthR.st aA.o aL.o
