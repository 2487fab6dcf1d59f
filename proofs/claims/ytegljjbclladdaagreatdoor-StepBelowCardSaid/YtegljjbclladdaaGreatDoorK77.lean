/- laws -/
import Derived.Test.YtegljjbclladdaaGreatDoorK68
import Derived.Test.YtegljjbclladdaaGreatDoorK76
set_option maxRecDepth 100000
set_option maxHeartbeats 16000000
namespace Go.Proofs.YtegljjbclladdaaGreatDoor
open Go.RowKit Proofs.Tryz
def retI:Ins:=⟨[114,101,116,117,114,110],0,[]⟩
def oneI:List Ins:=[⟨[105,110,116],1,[]⟩,retI]
def m7f:Mth:=⟨[102],[[105,110,116],[65]],[105,110,116],false,3,oneI,[]⟩
def m7g:Mth:=⟨[103],[],[],false,1,[retI],[]⟩
def c7A:Cls:=⟨[65],[79,98,106,101,99,116],[],false,false,false,[⟨[120],[105,110,116],false⟩,⟨[110,101,120,116],[65],false⟩],[m7f,m7g]⟩
def c7B:Cls:=⟨[66],[65],[[73]],false,false,false,[⟨[108],[65,91,93],false⟩],[]⟩
def c7I:Cls:=⟨[73],[79,98,106,101,99,116],[],true,true,false,[],[]⟩
def c7D:Cls:=⟨[68],[79,98,106,101,99,116],[],false,true,false,[],[]⟩
def cls7:List Cls:=[c7A,c7B,c7I,c7D]
theorem Zs0:∀c∈cls7,c.e=0:=by decide +kernel
theorem ZlC:∀k c,cls7[k]?=some c->Zad (Zav cls7 k) c.name=none:=by
 intro k c h
 match k,h with
 |0,h=>obtain rfl:=Yac h;decide +kernel
 |1,h=>obtain rfl:=Yac h;decide +kernel
 |2,h=>obtain rfl:=Yac h;decide +kernel
 |3,h=>obtain rfl:=Yac h;decide +kernel
 |k+4,h=>simp[cls7]at h
theorem Zqo:∀c∈cls7,(upE (Zar cls7) c.sup).isSome=true:=by decide +kernel
theorem ZlA:∀c∈cls7,ZaH (Zar cls7) c.like=true:=by decide +kernel
theorem ZlB:firstT (ZaI (newT cls7) (newT cls7).length).loop<0:=by decide +kernel
theorem ZjH:∀x∈Zca (newT cls7) (newT cls7).length,chkT (newT cls7) x=0:=by decide +kernel
theorem ZqP:m7f.held:=⟨by simp[i64,m7f],fun x a=>by simp[m7f,oneI,retI]at a;rcases a with rfl|rfl<;>simp[i64],fun x a=>by simp[m7f]at a⟩
theorem ZqQ:m7g.held:=⟨by simp[i64,m7g],fun x a=>by simp[m7g,retI]at a;subst a;simp[i64],fun x a=>by simp[m7g]at a⟩
theorem Zil:∀c∈cls7,c.held:=by
 intro c b m a;simp[cls7]at b;rcases b with rfl|rfl|rfl|rfl
 ·simp[c7A]at a;rcases a with rfl|rfl
  ·exact ZqP
  ·exact ZqQ
 ·simp[c7B]at a
 ·simp[c7I]at a
 ·simp[c7D]at a
theorem Zsp:m7f.Fit:=⟨by simp[m7f,Zaw],by simp[m7f,Zaw],fun x a=>by simp[m7f]at a;rcases a with rfl|rfl<;>simp[Zaw],fun x a=>by simp[m7f,oneI,retI]at a;rcases a with rfl|rfl<;>simp[Zaw],fun x a=>by simp[m7f]at a,by simp[m7f],by simp[m7f,oneI],by simp[m7f]⟩
theorem Zsq:m7g.Fit:=⟨by simp[m7g,Zaw],by simp[m7g,Zaw],fun x a=>by simp[m7g]at a,fun x a=>by simp[m7g,retI]at a;subst a;simp[Zaw],fun x a=>by simp[m7g]at a,by simp[m7g],by simp[m7g],by simp[m7g]⟩
theorem ZkJ:∀c∈cls7,c.Fit:=by
 intro c d;simp[cls7]at d;rcases d with rfl|rfl|rfl|rfl
 ·exact⟨by simp[c7A,Zaw],by simp[c7A,Zaw],by simp[c7A],fun f a=>by simp[c7A]at a;rcases a with rfl|rfl<;>simp[Zaw],fun m b=>by simp[c7A]at b;rcases b with rfl|rfl<;>first|exact Zsp|exact Zsq,by simp[c7A],by simp[c7A],by simp[c7A]⟩
 ·exact⟨by simp[c7B,Zaw],by simp[c7B,Zaw],fun x g=>by simp[c7B]at g;subst g;simp[Zaw],fun f a=>by simp[c7B]at a;subst a;simp[Zaw],by simp[c7B],by simp[c7B],by simp[c7B],by simp[c7B]⟩
 ·exact⟨by simp[c7I,Zaw],by simp[c7I,Zaw],by simp[c7I],by simp[c7I],by simp[c7I],by simp[c7I],by simp[c7I],by simp[c7I]⟩
 ·exact⟨by simp[c7D,Zaw],by simp[c7D,Zaw],by simp[c7D],by simp[c7D],by simp[c7D],by simp[c7D],by simp[c7D],by simp[c7D]⟩
theorem NewBad.not7 {i:Int}{z:Nat}(f:NewBad cls7 i z):False:=by
 rcases f with⟨k,c,_,b,_,a,_⟩|⟨_,⟨k,c,_,b,_,a,_⟩|⟨_,⟨k,c,_,b,a,_⟩|⟨_,⟨a,_⟩|⟨_,k,x,d,_,_,a,_⟩⟩⟩⟩
 ·exact a (Zs0 c (Yaf b))
 ·rw[ZlC k c b]at a;cases a
 ·rcases a with⟨_,a⟩|⟨_,_,a⟩
  ·have:=Zqo c (Yaf b);rw[a]at this;cases this
  ·have:=ZlA c (Yaf b);rw[a]at this;cases this
 ·have:=ZlB;omega
 ·exact a (ZjH x (Yaf d))
theorem Zqn (W:World)(d c b b3 b4 b5 f g:Nat)(h:Box W d #[.string ⟨#[105,110,116]⟩,.int .i64 1,.string ⟨#[]⟩,.string ⟨#[114,101,116,117,114,110]⟩,.int .i64 0,.string ⟨#[]⟩] 28)(m:Box W c #[.string ⟨#[120]⟩,.string ⟨#[105,110,116]⟩,.bool false,.string ⟨#[110,101,120,116]⟩,.string ⟨#[65]⟩,.bool false] 82)(q:Box W b #[.string ⟨#[105,110,116]⟩,.string ⟨#[65]⟩] 9)(v:Box W b3 #[.string ⟨#[114,101,116,117,114,110]⟩,.int .i64 0,.string ⟨#[]⟩] 28)(j:Box W b4 #[.string ⟨#[102]⟩,.slice (some ⟨b,0,none⟩) 2 2,.string ⟨#[105,110,116]⟩,.bool false,.int .i64 3,.slice (some ⟨d,0,none⟩) 2 2,.slice none 0 0,.string ⟨#[103]⟩,.slice none 0 0,.string ⟨#[]⟩,.bool false,.int .i64 1,.slice (some ⟨b3,0,none⟩) 1 1,.slice none 0 0] 26)(w:Box W b5 #[.string ⟨#[73]⟩] 9)(l:Box W f #[.string ⟨#[108]⟩,.string ⟨#[65,91,93]⟩,.bool false] 82)(s:Box W g #[.string ⟨#[65]⟩,.string ⟨#[79,98,106,101,99,116]⟩,.slice none 0 0,.bool false,.bool false,.bool false,.slice (some ⟨c,0,none⟩) 2 2,.slice (some ⟨b4,0,none⟩) 2 2,.string ⟨#[66]⟩,.string ⟨#[65]⟩,.slice (some ⟨b5,0,none⟩) 1 1,.bool false,.bool false,.bool false,.slice (some ⟨f,0,none⟩) 1 1,.slice none 0 0,.string ⟨#[73]⟩,.string ⟨#[79,98,106,101,99,116]⟩,.slice none 0 0,.bool true,.bool true,.bool false,.slice none 0 0,.slice none 0 0,.string ⟨#[68]⟩,.string ⟨#[79,98,106,101,99,116]⟩,.slice none 0 0,.bool false,.bool true,.bool false,.slice none 0 0,.slice none 0 0] 70):Src 8 ClsR Anyw W (.slice (some ⟨g,0,none⟩) 4 4) cls7:=by
 have y:Src 3 InsR Anyw W (.slice (some ⟨d,0,none⟩) 2 2) oneI:=ZcC oneI [(.agg #[.string ⟨#[105,110,116]⟩,.int .i64 1,.string ⟨#[]⟩]),(.agg #[.string ⟨#[114,101,116,117,114,110]⟩,.int .i64 0,.string ⟨#[]⟩])] 2 _ rfl rfl (by decide) (fun k x u hx a=>by
  match k,hx,a with
  |0,hx,a=>obtain rfl:=Yac hx;obtain rfl:=Yac a;exact rfl
  |1,hx,a=>obtain rfl:=Yac hx;obtain rfl:=Yac a;exact rfl
  |k+2,hx,_=>cases hx) (fun u a=>by simp only[Yai,Yat,or_false]at a;rcases a with rfl|rfl<;>rfl) rfl h
 have z:Src 3 FldR Anyw W (.slice (some ⟨c,0,none⟩) 2 2) c7A.flds:=ZcC c7A.flds [(.agg #[.string ⟨#[120]⟩,.string ⟨#[105,110,116]⟩,.bool false]),(.agg #[.string ⟨#[110,101,120,116]⟩,.string ⟨#[65]⟩,.bool false])] 2 _ rfl rfl (by decide) (fun k x u hx a=>by
  match k,hx,a with
  |0,hx,a=>obtain rfl:=Yac hx;obtain rfl:=Yac a;exact rfl
  |1,hx,a=>obtain rfl:=Yac hx;obtain rfl:=Yac a;exact rfl
  |k+2,hx,_=>cases hx) (fun u a=>by simp only[Yai,Yat,or_false]at a;rcases a with rfl|rfl<;>rfl) rfl m
 have A:Src 1 StrR Anyw W (.slice (some ⟨b,0,none⟩) 2 2) m7f.params:=ZcC m7f.params [(.string ⟨#[105,110,116]⟩),(.string ⟨#[65]⟩)] 2 _ rfl rfl (by decide) (fun k x u hx a=>by
  match k,hx,a with
  |0,hx,a=>obtain rfl:=Yac hx;obtain rfl:=Yac a;exact rfl
  |1,hx,a=>obtain rfl:=Yac hx;obtain rfl:=Yac a;exact rfl
  |k+2,hx,_=>cases hx) (fun u a=>by simp only[Yai,Yat,or_false]at a;rcases a with rfl|rfl<;>rfl) rfl q
 have r:Src 3 InsR Anyw W (.slice (some ⟨b3,0,none⟩) 1 1) m7g.code:=ZcC m7g.code [(.agg #[.string ⟨#[114,101,116,117,114,110]⟩,.int .i64 0,.string ⟨#[]⟩])] 1 _ rfl rfl (by decide) (fun k x u hx a=>by
  match k,hx,a with
  |0,hx,a=>obtain rfl:=Yac hx;obtain rfl:=Yac a;exact rfl
  |k+1,hx,_=>cases hx) (fun u a=>by simp only[Yai,Yat,or_false]at a;subst a;rfl) rfl v
 have n:Src 7 MthR Anyw W (.slice (some ⟨b4,0,none⟩) 2 2) c7A.mths:=ZcC c7A.mths [(.agg #[.string ⟨#[102]⟩,.slice (some ⟨b,0,none⟩) 2 2,.string ⟨#[105,110,116]⟩,.bool false,.int .i64 3,.slice (some ⟨d,0,none⟩) 2 2,.slice none 0 0]),(.agg #[.string ⟨#[103]⟩,.slice none 0 0,.string ⟨#[]⟩,.bool false,.int .i64 1,.slice (some ⟨b3,0,none⟩) 1 1,.slice none 0 0])] 2 _ rfl rfl (by decide) (fun k x u hx a=>by
  match k,hx,a with
  |0,hx,a=>obtain rfl:=Yac hx;obtain rfl:=Yac a;exact⟨_,_,_,rfl,A,y,Src.nil⟩
  |1,hx,a=>obtain rfl:=Yac hx;obtain rfl:=Yac a;exact⟨_,_,_,rfl,Src.nil,r,Src.nil⟩
  |k+2,hx,_=>cases hx) (fun u a=>by simp only[Yai,Yat,or_false]at a;rcases a with rfl|rfl<;>rfl) rfl j
 have p:Src 1 StrR Anyw W (.slice (some ⟨b5,0,none⟩) 1 1) c7B.like:=ZcC c7B.like [(.string ⟨#[73]⟩)] 1 _ rfl rfl (by decide) (fun k x u hx a=>by
  match k,hx,a with
  |0,hx,a=>obtain rfl:=Yac hx;obtain rfl:=Yac a;exact rfl
  |k+1,hx,_=>cases hx) (fun u a=>by simp only[Yai,Yat,or_false]at a;subst a;rfl) rfl w
 have i:Src 3 FldR Anyw W (.slice (some ⟨f,0,none⟩) 1 1) c7B.flds:=ZcC c7B.flds [(.agg #[.string ⟨#[108]⟩,.string ⟨#[65,91,93]⟩,.bool false])] 1 _ rfl rfl (by decide) (fun k x u hx a=>by
  match k,hx,a with
  |0,hx,a=>obtain rfl:=Yac hx;obtain rfl:=Yac a;exact rfl
  |k+1,hx,_=>cases hx) (fun u a=>by simp only[Yai,Yat,or_false]at a;subst a;rfl) rfl l
 have t:Src 8 ClsR Anyw W (.slice (some ⟨g,0,none⟩) 4 4) cls7:=ZcC cls7 [(.agg #[.string ⟨#[65]⟩,.string ⟨#[79,98,106,101,99,116]⟩,.slice none 0 0,.bool false,.bool false,.bool false,.slice (some ⟨c,0,none⟩) 2 2,.slice (some ⟨b4,0,none⟩) 2 2]),(.agg #[.string ⟨#[66]⟩,.string ⟨#[65]⟩,.slice (some ⟨b5,0,none⟩) 1 1,.bool false,.bool false,.bool false,.slice (some ⟨f,0,none⟩) 1 1,.slice none 0 0]),(.agg #[.string ⟨#[73]⟩,.string ⟨#[79,98,106,101,99,116]⟩,.slice none 0 0,.bool true,.bool true,.bool false,.slice none 0 0,.slice none 0 0]),(.agg #[.string ⟨#[68]⟩,.string ⟨#[79,98,106,101,99,116]⟩,.slice none 0 0,.bool false,.bool true,.bool false,.slice none 0 0,.slice none 0 0])] 4 _ rfl rfl (by decide) (fun k x u hx a=>by
  match k,hx,a with
  |0,hx,a=>obtain rfl:=Yac hx;obtain rfl:=Yac a;exact⟨_,_,_,rfl,Src.nil,z,n⟩
  |1,hx,a=>obtain rfl:=Yac hx;obtain rfl:=Yac a;exact⟨_,_,_,rfl,p,i,Src.nil⟩
  |2,hx,a=>obtain rfl:=Yac hx;obtain rfl:=Yac a;exact⟨_,_,_,rfl,Src.nil,Src.nil,Src.nil⟩
  |3,hx,a=>obtain rfl:=Yac hx;obtain rfl:=Yac a;exact⟨_,_,_,rfl,Src.nil,Src.nil,Src.nil⟩
  |k+4,hx,_=>cases hx) (fun u a=>by simp only[Yai,Yat,or_false]at a;rcases a with rfl|rfl|rfl|rfl<;>rfl) rfl s
 exact t
def Zfs (w:World)(e:Ending)(w':World):Prop:=∃v,e=.returned v/\Src 8 ClsR Anyw w' v cls7/\Below w.heap.size w w'
theorem Zfe (w:World):Calls prog 12 #[] w (Zfs w):=by
 unfold Zfs;go_enter func12,ntmps12
 go_wp2_with fail;go_ret;refine⟨_,rfl,Zqn _ w.heap.size (w.heap.size+1) (w.heap.size+1+1) (w.heap.size+1+1+1) (w.heap.size+1+1+1+1) (w.heap.size+1+1+1+1+1) (w.heap.size+1+1+1+1+1+1) (w.heap.size+1+1+1+1+1+1+1) ?_ ?_ ?_ ?_ ?_ ?_ ?_ ?_,?_⟩
 case refine_9=>exact Zaa (Zaa (Zaa (Zaa (Zaa (Zaa (Zaa (Zaa (Yab _ _) _) _) _) _) _) _) _) _
 all_goals
  unfold Box;repeat (first|(exact Zam _ _ _ (by simp))|(with_reducible apply Zaz))
def Zen (w:World)(e:Ending)(w':World):Prop:=NewOk cls7/\∃(b a:Nat) (B:Nat->Nat) (A:Nat->Prop) (v:Value),e=.returned (.tuple #[.pointer (some ⟨b,0,none⟩),v])/\Tab A w' b a B (newT cls7)/\Src 8 ClsR Anyw w' v (allR cls7)/\Below w.heap.size w w'
theorem Zeu (w:World)(A:FaultTab w)(r:CT w):Calls prog 5 #[] w (Zen w):=by
 have F:=Hd A;have H:=Hd r;clear A r;unfold Zen;go_enter func5,ntmps5
 go_wp2_with fail;with_reducible refine(Zfe w).mono ?_
 unfold Zfs;rintro e D⟨v,rfl,u,b⟩;have c:=Hd (Zsr cls7 v D u (F.o.keep b) (H.o.keep b) ZkJ Zil (by decide));have n:=Hd b;clear u b;go_wp2_with fail;with_reducible refine c.o.mono ?_
 rintro e w2 G;rcases G with⟨i,z,a,_⟩|⟨ok,K,E,B,rfl,y,l⟩
 ·exact a.not7.elim
 have t:=Hd ok;have q:=Hd y.tab;have k:=Hd (n.o.trans (l.mono n.o.size));clear ok y l c;go_wp2_with fail;with_reducible refine(Zfe w2).mono ?_
 unfold Zfs;rintro e C⟨J,rfl,m,g⟩;have c:=Hd (Zrh cls7 J C m ZkJ Zil (by decide));have h:=Hd (k.o.trans (g.mono k.o.size));have j:=Hd (q.o.below g);clear m g q;go_wp2_with fail;with_reducible refine c.o.mono ?_
 unfold ZrU;rintro e L G;rcases G with⟨i,z,a,_⟩|⟨_,I,rfl,f,d⟩
 ·exact a.not7.elim
 have p:=Hd (h.o.trans (d.mono h.o.size));have x:=Hd (j.o.below d);have s:=Hd f;clear f d j c;go_wp2;go_ret2
 exact⟨t.o,K,E,B,_,I,rfl,x.o,s.o,p.o⟩
def addL:List UInt8:=[97,100,100]
def nul7:List UInt8:=[110,117,108,108]
def tar7:List UInt8:=[116,101,120,116,91,93]
theorem Zsb:Zfm addL=some 51:=by decide +kernel
theorem Zlg:subE (newT cls7) intL intL=true:=by decide +kernel
theorem ZqH:ZgB (newT cls7) nul7 tar7=tar7:=by decide +kernel
theorem ZoP:ZiY (newT cls7) ⟨true,[nul7],[]⟩ ⟨true,[tar7],[]⟩=(⟨true,[tar7],[]⟩,0):=by
 unfold ZiY ZbH;simp only[List.zipWith_cons_cons,List.zipWith_nil_left,ZqH];rfl
theorem Zfx {W:World}{b:Nat}{t:TypeId}(l:List (List UInt8))(n:Nat)(cs:Array Value)(g:n=l.length)(c:l.length<=9223372036854775807)(d:cs=(l.map strV).toArray)(h:W.heap[b]?=some (.cells cs t (0,0))):Src 1 StrR Anyw W (.slice (some ⟨b,0,none⟩) n n) l:=
 ZcC l (l.map strV) n cs g (YaB ..) c (fun k x u f a=>by rw[Yav,f]at a;exact(Yac a).symm) (fun u a=>by obtain⟨x,_,rfl⟩:=Ya2.1 a;rfl) (by rw[ZjC Za2];exact d) h
theorem ZpD {W:World}{b:Nat}{t:TypeId}(x:List UInt8)(a:W.heap[b]?=some (.cells #[.string (S x)] t (0,0))):ShpR Anyw W ⟨true,[x],[]⟩ (.agg #[.bool true,.slice (some ⟨b,0,none⟩) 1 1,.slice none 0 0]):=
 ⟨_,_,rfl,Zfx [x] 1 _ rfl (by simp) rfl a,Src.nil⟩
theorem Zs6 {A:Nat->Prop}{B:Nat->Nat}{g i:Nat}{b:World}(k:Tab A b g i B (newT cls7))(f:Shape (newT cls7))(sv:Value)(w:World)(j:Below b.heap.size b w)(h:ShpR Anyw w ⟨true,[intL,intL],[]⟩ sv) :
  Calls prog 9 #[.pointer (some ⟨g,0,none⟩),.agg #[.string ⟨#[]⟩,.slice none 0 0,.string ⟨#[]⟩,.bool false,.int .i64 0,.slice none 0 0,.slice none 0 0],.agg #[.string ⟨#[97,100,100]⟩,.int .i64 0,.string ⟨#[]⟩],sv] w (DoG (⟨true,[intL],[]⟩,0) w):=by
 have c:(⟨true,[intL,intL],[]⟩:Shp).Small:=⟨by decide,by decide,fun x a=>by simp only[Yai,Yat,or_false,or_self]at a;subst a;decide,fun x a=>by cases a⟩;have p:=ZnW 51 g [] [] addL [] none none none 0 0 0 0 0 0 false 0 0 ⟨true,[intL,intL],[]⟩ sv b w j h c Zsb (by decide) (Zac func51 (by kernel_rfl) rfl) [intL] [] 0
  (fun n lo W l m d=>ZlG k f n lo _ rfl [] [] intL intL W d (by decide) Zlg Zlg (fun x a=>by simp only[Ybq,Yai,Yat,or_false,or_self]at a;subst a;decide))
 exact p
theorem ZgH (w:World)(aL:FaultTab w)(aA:CT w):Calls prog 6 #[] w (Said true w):=by
 have I:=Hd (Zeu w aL aA);unfold Zen at I;go_enter func6,ntmps6
 go_wp2_with fail;with_reducible refine I.o.mono ?_
 rintro e P⟨ok,aX,aV,B,A,v,rfl,aG,G,ah⟩;obtain⟨aU,aS,rfl⟩:=G.shape;have O:(allR cls7).length=12:=by decide
 rw[O];have aF:=Hd aG;have ar:=Hd ok.shape;have X:=Hd ah;clear ok aG G ah aL aA I O;go_wp2_with fail;have m:Below P.heap.size P (P.alloc (.cells #[.string ⟨#[105,110,116]⟩,.string ⟨#[105,110,116]⟩] 9)):=Zaa (Yab _ _) _;refine(Zs6 aF.o ar.o _ _ m ⟨_,_,rfl,Zfx [intL,intL] 2 _ rfl (by decide) rfl (heap_alloc_new P _),Src.nil⟩).mono ?_;unfold DoG;rintro e w2⟨aT,rfl,J,L⟩;obtain⟨f,g,i,h,rfl⟩:=J.shape;have ao:=Hd J;have Z:=Hd (X.o.trans ((m.trans (L.mono m.size)).mono X.o.size));have Y:=Hd (m.trans (L.mono m.size));clear J L m;show _;simp only at ao⊢;go_wp2_with fail;have C:Below w2.heap.size w2 (((w2.alloc (.cells #[.bool true,.slice f 1 g,.slice i 0 h] 30)).alloc (.cells #[.string ⟨#[110,117,108,108]⟩] 9)).alloc (.cells #[.string ⟨#[116,101,120,116,91,93]⟩] 9)):=Zaa (Zaa (Zaa (Yab _ _) _) _) _;have U:Box (((w2.alloc (.cells #[.bool true,.slice f 1 g,.slice i 0 h] 30)).alloc (.cells #[.string ⟨#[110,117,108,108]⟩] 9)).alloc (.cells #[.string ⟨#[116,101,120,116,91,93]⟩] 9)) w2.heap.size #[.bool true,.slice f 1 g,.slice i 0 h] 30:=by
  unfold Box;repeat (first|(exact Zam _ _ _ (by simp))|(with_reducible apply Zaz))
 have T:ShpR Anyw (((w2.alloc (.cells #[.bool true,.slice f 1 g,.slice i 0 h] 30)).alloc (.cells #[.string ⟨#[110,117,108,108]⟩] 9)).alloc (.cells #[.string ⟨#[116,101,120,116,91,93]⟩] 9)) ⟨true,[nul7],[]⟩ (.agg #[.bool true,.slice (some ⟨w2.heap.size+1,0,none⟩) 1 1,.slice none 0 0]):=⟨_,_,rfl,Zfx (t:=9) [nul7] 1 #[.string ⟨#[110,117,108,108]⟩] rfl (by decide) rfl (by repeat (first|(exact Zam _ _ _ (by simp))|(with_reducible apply Zaz))),Src.nil⟩;have ac:ShpR Anyw (((w2.alloc (.cells #[.bool true,.slice f 1 g,.slice i 0 h] 30)).alloc (.cells #[.string ⟨#[110,117,108,108]⟩] 9)).alloc (.cells #[.string ⟨#[116,101,120,116,91,93]⟩] 9)) ⟨true,[tar7],[]⟩ (.agg #[.bool true,.slice (some ⟨w2.heap.size+1+1,0,none⟩) 1 1,.slice none 0 0]):=⟨_,_,rfl,Zfx (t:=9) [tar7] 1 #[.string ⟨#[116,101,120,116,91,93]⟩] rfl (by decide) rfl (by repeat (first|(exact Zam _ _ _ (by simp))|(with_reducible apply Zaz))),Src.nil⟩;have ak:=Zl6 aF.o ar.o ⟨true,[nul7],[]⟩ ⟨true,[tar7],[]⟩ _ _ (((w2.alloc (.cells #[.bool true,.slice f 1 g,.slice i 0 h] 30)).alloc (.cells #[.string ⟨#[110,117,108,108]⟩] 9)).alloc (.cells #[.string ⟨#[116,101,120,116,91,93]⟩] 9)) (Y.o.trans (C.mono Y.o.size)) T ac ⟨by decide,by decide,fun x r=>by simp only[Yai,Yat,or_false]at r;subst r;decide,fun x r=>by cases r⟩ ⟨by decide,by decide,fun x r=>by simp only[Yai,Yat,or_false]at r;subst r;decide,fun x r=>by cases r⟩;rw[ZoP]at ak;have al:=Hd ak;have av:=Hd U;have af:=Hd (Z.o.trans (C.mono Z.o.size));have aQ:=Hd (ShpR.below ao.o C);clear ak T ac C U;unfold DoG at al;refine al.o.mono ?_;rintro e j⟨aW,rfl,E,z⟩;obtain⟨a,b,c,d,rfl⟩:=E.shape;have aP:=Hd E;have aC:=Hd (ShpR.below aQ.o z);have R:=Hd (af.o.trans (z.mono af.o.size));have u:Below j.heap.size j (j.alloc (.cells #[.bool true,.slice a 1 b,.slice c 0 d] 30)):=Zaa (Yab _ _) _;have k:=(av.o.below z).below u;have H:Box (j.alloc (.cells #[.bool true,.slice a 1 b,.slice c 0 d] 30)) j.heap.size #[.bool true,.slice a 1 b,.slice c 0 d] 30:=Box.new j _ _;have ay:=k.cell 0 rfl;have aq:=k.cell 1 rfl;have aI:=k.cell 2 rfl;have ap:=Hd k;have aE:=Hd H;have aa:=Hd (ShpR.below aP.o u);have F:=Hd (ShpR.below aC.o u);have ab:=Hd (R.o.trans (u.mono R.o.size));clear E z al k H u;simp only at aa F⊢;have l:Below (j.alloc (.cells #[.bool true,.slice a 1 b,.slice c 0 d] 30)).heap.size (j.alloc (.cells #[.bool true,.slice a 1 b,.slice c 0 d] 30)) ((j.alloc (.cells #[.bool true,.slice a 1 b,.slice c 0 d] 30)).alloc (.cells #[.string ⟨#[105,110,116]⟩] 9)):=Zaa (Yab _ _) _;have ag:Hid (Calls prog 10 #[.agg #[.bool true,.slice f 1 g,.slice i 0 h],.agg #[.bool true,.slice (some ⟨j.heap.size+1,0,none⟩) 1 1,.slice none 0 0]] ((j.alloc (.cells #[.bool true,.slice a 1 b,.slice c 0 d] 30)).alloc (.cells #[.string ⟨#[105,110,116]⟩] 9)) (Said true ((j.alloc (.cells #[.bool true,.slice a 1 b,.slice c 0 d] 30)).alloc (.cells #[.string ⟨#[105,110,116]⟩] 9)))):=Hd
  (Zec ⟨true,[intL],[]⟩ ⟨true,[intL],[]⟩ _ _ ((j.alloc (.cells #[.bool true,.slice a 1 b,.slice c 0 d] 30)).alloc (.cells #[.string ⟨#[105,110,116]⟩] 9)) (ShpR.below F.o l) (ZpD (t:=9) intL (Zam _ _ _ (by simp))) ⟨by decide,by decide⟩ ⟨by decide,by decide⟩)
 have au:=Hd (ap.o.below l);have ax:=Hd (aE.o.below l);have az:=Hd (ShpR.below F.o l);have aD:=Hd (ShpR.below aa.o l);have V:=Hd (ab.o.trans (l.mono ab.o.size));clear l;go_wp2_with fail;with_reducible refine ag.o.mono ?_
 rintro e y⟨rfl,n⟩;have q:=ax.o.below n;have N:=au.o.below n;have ae:=Hd (V.o.trans (n.mono V.o.size));have aH:=Hd (ShpR.below az.o n);have aB:=Hd (ShpR.below aD.o n);have aM:=q.cell 0 rfl;have aO:=q.cell 1 rfl;have aN:=q.cell 2 rfl;have aw:=Hd N;clear ay aq aI n q N ag;have s:Below y.heap.size y (y.alloc (.cells #[.string ⟨#[116,101,120,116,91,93]⟩] 9)):=Zaa (Yab _ _) _;have ai:Hid (Calls prog 10 #[.agg #[.bool true,.slice a 1 b,.slice c 0 d],.agg #[.bool true,.slice (some ⟨y.heap.size,0,none⟩) 1 1,.slice none 0 0]] (y.alloc (.cells #[.string ⟨#[116,101,120,116,91,93]⟩] 9)) (Said true (y.alloc (.cells #[.string ⟨#[116,101,120,116,91,93]⟩] 9)))):=Hd
  (Zec ⟨true,[tar7],[]⟩ ⟨true,[tar7],[]⟩ _ _ _ (ShpR.below aB.o s) (ZpD (t:=9) tar7 (heap_alloc_new y _)) ⟨by decide,by decide⟩ ⟨by decide,by decide⟩)
 have aJ:=Hd (aw.o.below s);have aK:=Hd (ShpR.below aH.o s);have Q:=Hd (ae.o.trans (s.mono ae.o.size));clear s;go_wp2_with fail;with_reducible refine ai.o.mono ?_
 rintro e aj⟨rfl,D⟩;have p:=aJ.o.below D;have ay:=p.cell 0 rfl;have aq:=p.cell 1 rfl;have aI:=p.cell 2 rfl;have M:=ShpR.below aK.o D;have ad:Hid (Calls prog 15 #[.agg #[.bool true,.slice f 1 g,.slice i 0 h],.agg #[.bool true,.slice f 1 g,.slice i 0 h]] aj (Said true aj)):=Hd
  (ZpB ⟨true,[intL],[]⟩ ⟨true,[intL],[]⟩ _ _ aj M M ⟨by decide,by decide⟩ ⟨by decide,by decide⟩)
 have W:=Hd (Q.o.trans (D.mono Q.o.size));clear aM aO aN D p M ai;go_wp2_with fail;with_reducible refine ad.o.mono ?_
 rintro e aR⟨rfl,K⟩;have am:=Hd (W.o.trans (K.mono W.o.size));clear K ad;go_wp2;go_ret;exact⟨rfl,am.o⟩
