/- laws -/
import Derived.Test.YtegljjbclladdaaGreatDoorK01
import Derived.BigQuiet
import Derived.Lib.BufferWrite
import Derived.Lib.Bytealg
import Derived.Test.YtegljjbclladdaaGreatDoorProg
set_option maxRecDepth 100000
set_option maxHeartbeats 16000000
namespace Go.Proofs.YtegljjbclladdaaGreatDoor
open Go.RowKit Tryz
structure Fld where
 name:List UInt8
 kind:List UInt8
 tr:Bool
structure Cat where
 fr:Int
 till:Int
 at_:Int
 cls:List UInt8
abbrev strV (x:List UInt8):Value:=.string (S x)
abbrev fldV (f:Fld):Value:=.agg #[.string (S f.name),.string (S f.kind),.bool f.tr]
abbrev catV (c:Cat):Value:=.agg #[.int .i64 c.fr,.int .i64 c.till,.int .i64 c.at_,.string (S c.cls)]
abbrev StrR:Zao (List UInt8):=Flat strV
abbrev FldR:Zao Fld:=Flat fldV
abbrev CatR:Zao Cat:=Flat catV
theorem StrR.st:Stays StrR:=Flat.stays _
theorem FldR.st:Stays FldR:=Flat.stays _
theorem CatR.st:Stays CatR:=Flat.stays _
theorem ZcD {α:Type}(p:α->Bool)(l:List α)(k:Nat)(x:α)(a:l[k]?=some x):(l.take (k+1)).all p=((l.take k).all p&&p x):=by
 rw[YaK,a];simp
theorem Zap {α:Type}(p:α->Bool)(l:List α)(k:Nat)(x:α)(a:l[k]?=some x):(l.take (k+1)).any p=((l.take k).any p || p x):=by
 rw[YaK,a];simp
theorem ZcO {α:Type}(p:α->Bool)(l:List α):l.all p = !l.any (fun x=>!p x):=by
 induction l with
 |nil=>rfl
 |cons x l a=>simp[a]
def Zf0 (l:List (List UInt8))(k:Nat):Bool:=!(l.take k).any (fun a=>a==l.getD k [])
def ZbG (l:List (List UInt8))(k:Nat):Bool:=(List.range k).all (Zf0 l)
def ZbM (l:List (List UInt8)):Bool:=ZbG l l.length
theorem ZdG (l:List (List UInt8)):ZbG l 0=true:=by simp[ZbG]
theorem ZdF (l:List (List UInt8))(k:Nat):ZbG l (k+1)=(ZbG l k&&Zf0 l k):=by
 unfold ZbG;rw[YbU,Yct];simp
theorem ZfN (l:List (List UInt8))(k m:Nat)(d:k<=m)(c:ZbG l k=false):ZbG l m=false:=by
 unfold ZbG at c⊢;rw[Yb4]at c⊢;obtain⟨i,a,b⟩:=c;exact⟨i,by simp at a⊢;omega,b⟩
def Box (w:World)(B:Nat)(cs:Array Value)(t:TypeId):Prop:=w.heap[B]?=some (.cells cs t (0,0))
theorem Box.new (w:World)(cs:Array Value)(t:TypeId):Box (w.alloc (.cells cs t)) w.heap.size cs t:=heap_alloc_new w _
theorem Box.cell {w:World}{B:Nat}{cs:Array Value}{t:TypeId}(b:Box w B cs t)(c:Nat){v:Value}(a:cs[c]?=some v):w.cell? ⟨B,c,none⟩=some v:=by
 unfold Box at b;unfold World.cell?;rw[b];exact a
theorem Box.keep {S:Nat->Prop}{w w':World}{B:Nat}{cs:Array Value}{t:TypeId}(c:Box w B cs t)(a:Only S w w')(b:¬S B):Box w' B cs t:=a.heap c b
theorem Box.below {w w':World}{B:Nat}{cs:Array Value}{t:TypeId}(b:Box w B cs t)(a:Below w.heap.size w w'):Box w' B cs t:=b.keep (Yae (S:=fun _=>False) a) id
theorem Box.lt {w:World}{B:Nat}{cs:Array Value}{t:TypeId}(a:Box w B cs t):B<w.heap.size:=lt_of_block a
end Go.Proofs.YtegljjbclladdaaGreatDoor
namespace Go.Proofs.YtegljjbclladdaaGreatDoor

def Zcg (c:UInt8):Bool:=(decide (97<=c.toNat)&&decide (c.toNat<=122)) || (decide (65<=c.toNat)&&decide (c.toNat<=90))
def ZdO (c:UInt8):Bool:=decide (48<=c.toNat)&&decide (c.toNat<=57)
def okAt (i:Nat)(c:UInt8):Bool:=Zcg c || (decide (i≠0)&&ZdO c)
def okTo (l:List UInt8)(k:Nat):Bool:=(List.range k).all fun i=>okAt i (l.getD i 0)
def ZbS (l:List UInt8):Bool:=okTo l l.length&&(decide (1<=l.length)&&decide (l.length<=32))
def Zah (l:List UInt8):Bool:=ZbS l&&decide ((l.getD 0 0).toNat<=90)
def ZaA (l:List UInt8):Bool:=ZbS l&&decide (97<=(l.getD 0 0).toNat)
def kInt:List UInt8:=[105,110,116]
def ZoC:List UInt8:=[98,111,111,108]
def ZoD:List UInt8:=[116,101,120,116]
def Zay (l:List UInt8):Bool:=decide (l=kInt) || decide (l=ZoC) || decide (l=ZoD)
def Zby (l:List UInt8):Bool:=decide (2<=l.length)&&decide (l.drop (l.length-2)=[91,93])
def ZaL (l:List UInt8):Nat:=if a:Zby l=true then ZaL (l.take (l.length-2))+1 else 0
 termination_by l.length
 decreasing_by
  have:2<=l.length:=by
   unfold Zby at a;simp at a;exact a.1
  rw[YaA];omega
theorem Zdp {l:List UInt8}(a:Zby l=true):2<=l.length:=by
 unfold Zby at a;simp at a;exact a.1
theorem ZcF {l:List UInt8}(a:Zby l=true):ZaL l=ZaL (l.take (l.length-2))+1:=by rw[ZaL,dif_pos a]
theorem ZcR {l:List UInt8}(a:Zby l=false):ZaL l=0:=by rw[ZaL,dif_neg (by rw[a];decide)]
theorem ZdD (l:List UInt8):2*ZaL l<=l.length:=by
 cases a:Zby l with
 |true=>
  have c:=Zdp a;have b:=ZdD (l.take (l.length-2));rw[YaA]at b;rw[ZcF a];omega
 |false=>rw[ZcR a];omega
 termination_by l.length
 decreasing_by rw[YaA];omega
def Zbp (l:List UInt8):List UInt8:=l.take (l.length-2*ZaL l)
theorem Zc6 (l:List UInt8):(Zbp l).length=l.length-2*ZaL l:=by unfold Zbp;rw[YaA];omega
def Zlu (l:List UInt8):Bool:=Zay l || Zah l
def Zag (l:List UInt8):Bool:=decide (ZaL l<=3)&&Zlu (Zbp l)
def Zbd (l:List UInt8):List UInt8:=if Zag l=true/\1<=ZaL l then l.take (l.length-2)else[]
def ZaQ (l:List UInt8):Nat:=l.findIdx (fun c=>c==46)
def ZaU (l:List UInt8):Bool:=decide (ZaQ l<l.length)&&(Zah (l.take (ZaQ l))&&ZaA (l.drop (ZaQ l+1)))

theorem Zdu (l:List UInt8)(k:Nat):okTo l (k+1)=(okTo l k&&okAt k (l.getD k 0)):=by
 unfold okTo;rw[YbU,Yct];simp
theorem Zo4 (l:List UInt8):okTo l 0=true:=by simp[okTo]
theorem ZsA (l:List UInt8)(k m:Nat)(d:k<=m)(c:okTo l k=false):okTo l m=false:=by
 unfold okTo at c⊢;rw[Yb4]at c⊢;obtain⟨i,a,b⟩:=c;exact⟨i,by simp at a⊢;omega,b⟩
theorem ZbK {l:List UInt8}(a:ZbS l=true):1<=l.length/\l.length<=32:=by
 unfold ZbS at a;simp at a;exact a.2
theorem ZhH {l:List UInt8}(a:ZbS l=true)(i:Nat)(b:i<l.length):okAt i (l.getD i 0)=true:=by
 unfold ZbS okTo at a;simp only[Yaw,YaF]at a;exact a.1 i (by simpa using b)
theorem Zsz (i:Nat)(c:UInt8)(a:okAt i c=true):c≠91/\c≠93/\c≠46:=by
 refine⟨?_,?_,?_⟩<;>(rintro rfl;revert a;unfold okAt;cases i<;>simp<;>decide)
theorem Zdt {l:List UInt8}(f:ZbS l=true):Zby l=false:=by
 cases a:Zby l with
 |false=>rfl
 |true=>
  exfalso;have d:=Zdp a;unfold Zby at a;simp at a;have b:(l.drop (l.length-2))[0]?=some 91:=by rw[a.2];rfl
  rw[Ybo,YbO]at b;have c:l.getD (l.length-2) 0=91:=by simp[List.getD,b]
  exact(Zsz _ _ (ZhH f (l.length-2) (by omega))).1 c
theorem Zer {l:List UInt8}(a:Zay l=true):ZbS l=true:=by
 unfold Zay at a;simp at a;rcases a with(a|a)|a<;>subst a<;>decide
theorem Zi4 {l:List UInt8}(a:Zay l=true):Zah l=false:=by
 unfold Zay at a;simp at a;rcases a with(a|a)|a<;>subst a<;>decide
theorem Zbs {l:List UInt8}(a:Zah l=true):ZbS l=true:=by unfold Zah at a;simp at a;exact a.1
theorem Zd7 {l:List UInt8}(a:Zlu l=true):ZbS l=true:=by
 unfold Zlu at a;simp at a;rcases a with a|a
 ·exact Zer a
 ·exact Zbs a
def ofL (l:List UInt8):List UInt8:=l++[91,93]
theorem Ze7 (l:List UInt8):(ofL l).length=l.length+2:=by simp[ofL]
theorem ZqZ (l:List UInt8):Zby (ofL l)=true:=by
 unfold Zby;rw[Ze7];simp[ofL]
theorem Zq0 (l:List UInt8):(ofL l).take ((ofL l).length-2)=l:=by
 rw[Ze7];simp[ofL]
theorem ZhJ (l:List UInt8):ZaL (ofL l)=ZaL l+1:=by rw[ZcF (ZqZ l),Zq0]
theorem ZqY (l:List UInt8):Zbp (ofL l)=Zbp l:=by
 have a:=ZdD l;unfold Zbp;rw[ZhJ,Ze7];unfold ofL;rw[YbE (by omega)]
 congr 1
 omega
theorem Zn0 {l:List UInt8}(a:Zby l=true):ofL (l.take (l.length-2))=l:=by
 unfold Zby at a;simp at a;unfold ofL;rw[←a.2];exact Ya5 _ _
theorem Ziq {l:List UInt8}(b:1<=ZaL l):Zby l=true:=by
 cases a:Zby l with
 |true=>rfl
 |false=>rw[ZcR a]at b;omega
theorem Zi2 (l:List UInt8):Zag (ofL l)=(Zag l&&decide (ZaL l<=2)):=by
 unfold Zag;rw[ZhJ,ZqY];by_cases b:ZaL l<=2
 ·have a:ZaL l<=3:=by omega
  simp[b,a]
 ·simp[b]
theorem ZlJ {l:List UInt8}(j:Zag l=true)(b:1<=ZaL l):Zag (Zbd l)=true/\ZaL (Zbd l)=ZaL l-1/\ofL (Zbd l)=l:=by
 have i:=Ziq b;have d:Zbd l=l.take (l.length-2):=by unfold Zbd;rw[Yay ⟨j,b⟩]
 have c:ofL (Zbd l)=l:=by rw[d];exact Zn0 i
 have a:=Zi2 (Zbd l);have g:=ZhJ (Zbd l);rw[c]at a g;rw[j]at a;have f:Zag (Zbd l)=true:=by
  cases h:Zag (Zbd l)with
  |true=>rfl
  |false=>rw[h]at a;simp at a
 exact⟨f,by omega,c⟩
theorem Ze9 {l:List UInt8}(a:Zag l=true):ZbS (Zbp l)=true:=by
 unfold Zag at a;simp at a;exact Zd7 a.2
theorem Zig {l:List UInt8}(a:ZbS l=true):ZaL l=0:=ZcR (Zdt a)
end Go.Proofs.YtegljjbclladdaaGreatDoor
namespace Go.Proofs.YtegljjbclladdaaGreatDoor
open Go.RowKit Tryz
theorem Zai {a b:Bool}(c:a=b):Ending.returned (.bool a)=.returned (.bool b):=by rw[c]
theorem ZeP {k:Nat}{c:UInt8}(a:(97<=c.toNat/\c.toNat<=122)\/(65<=c.toNat/\c.toNat<=90)\/(k≠0/\48<=c.toNat/\c.toNat<=57)):okAt k c=true:=by
 unfold okAt Zcg ZdO;simp only[YaZ,Yaw,YaP];omega
theorem ZdJ {k:Nat}{c:UInt8}(b:¬((97<=c.toNat/\c.toNat<=122)\/(65<=c.toNat/\c.toNat<=90)\/(k≠0/\48<=c.toNat/\c.toNat<=57))):okAt k c=false:=by
 cases a:okAt k c with
 |false=>rfl
 |true=>
  exfalso;apply b;unfold okAt Zcg ZdO at a;simp only[YaZ,Yaw,YaP]at a;omega
theorem Zb3 {l:List UInt8}{k:Nat}(a:k<l.length)(c:okAt k (l.getD k 0)=false):ZbS l=false:=by
 have b:okTo l (k+1)=false:=by rw[Zdu,c,Yco]
 unfold ZbS;rw[ZsA l (k+1) l.length a b,YaQ]
theorem Zgo (l:List UInt8)(w:World)(s:l.length<=9223372036854775807) :
  Calls prog 208 #[.string (S l)] w fun e w'=>e=.returned (.bool (ZbS l))/\w=w':=by
 have B:((S l).size:Int)=(l.length:Int):=by rw[Zat]
 obtain⟨n,u⟩:∃n,n=l.length:=⟨_,rfl⟩
 rw[←u]at B;have t:=Hd u;have L:n<=9223372036854775807:=by omega
 clear u s;go_enter func208,ntmps208;go_wp2
 go_loop [3] (fun z=>∃k:Nat,k<=n/\z=.int .i64 k/\okTo l k=true) (fun z=>n-(intOf z).toNat)
 case atStart=>exact⟨0,Yao _,rfl,Zo4 l⟩
 case round=>
  obtain⟨k,M,rfl,q⟩:=hrel;have g:=Hd q;clear q;by_cases K:k<n
  ·have d:k<l.length:=by have:=t.o;omega
   obtain⟨x,v⟩:∃x,x=l.getD k 0:=⟨_,rfl⟩
   obtain⟨c,p⟩:∃c,c=x.toNat:=⟨_,rfl⟩
   have I:∀H:k<(S l).size,((S l)[k]'H).toNat=c:=fun H=>by rw[p,v,S_at l k d H]
   have f:=Hd v;have b:=Hd p;have G:c<256:=by rw[p];exact UInt8.toNat_lt _
   clear v p;by_cases A:k=0
   ·subst A;rcases(show(97<=(c:Int)/\(c:Int)<=122)\/122<(c:Int)\/(90<(c:Int)/\(c:Int)<97)\/(65<=(c:Int)/\(c:Int)<=90)\/(57<(c:Int)/\(c:Int)<65)\/(48<=(c:Int)/\(c:Int)<=57)\/(c:Int)<48 by omega)with a|a|a|a|a|a|a
    ·obtain⟨a,h⟩:=a;go_wp2;go_round
     case rel=>exact⟨1,by omega,rfl,by rw[show 1=0+1 from rfl,Zdu,g.o,←f.o,ZeP (by rw[←b.o];omega)];rfl⟩
     case measure=>simp[intOf];omega
    ·(try have y:decide ((c:Int)<=122)=false:=(by simp;omega))
     (try have i:decide ((c:Int)<=90)=false:=(by simp;omega))
     go_wp2;go_ret;exact⟨Zai (Zb3 d (by rw[←f.o];exact ZdJ (by rw[←b.o];omega))).symm,rfl⟩
    ·obtain⟨a,h⟩:=a
     (try have i:decide ((c:Int)<=90)=false:=(by simp;omega))
     go_wp2;go_ret;exact⟨Zai (Zb3 d (by rw[←f.o];exact ZdJ (by rw[←b.o];omega))).symm,rfl⟩
    ·obtain⟨a,h⟩:=a;go_wp2;go_round
     case rel=>exact⟨1,by omega,rfl,by rw[show 1=0+1 from rfl,Zdu,g.o,←f.o,ZeP (by rw[←b.o];omega)];rfl⟩
     case measure=>simp[intOf];omega
    ·obtain⟨a,h⟩:=a
     (try have i:decide ((c:Int)<=90)=false:=(by simp;omega))
     go_wp2;go_ret;exact⟨Zai (Zb3 d (by rw[←f.o];exact ZdJ (by rw[←b.o];omega))).symm,rfl⟩
    ·obtain⟨a,h⟩:=a
     (try have i:decide ((c:Int)<=90)=false:=(by simp;omega))
     go_wp2;go_ret;exact⟨Zai (Zb3 d (by rw[←f.o];exact ZdJ (by rw[←b.o];omega))).symm,rfl⟩
    ·(try have y:decide ((c:Int)<=122)=false:=(by simp;omega))
     (try have i:decide ((c:Int)<=90)=false:=(by simp;omega))
     go_wp2;go_ret;exact⟨Zai (Zb3 d (by rw[←f.o];exact ZdJ (by rw[←b.o];omega))).symm,rfl⟩
   ·have J:((k:Int)==0)=false:=by rw[Yah];omega
    rcases(show(97<=(c:Int)/\(c:Int)<=122)\/122<(c:Int)\/(90<(c:Int)/\(c:Int)<97)\/(65<=(c:Int)/\(c:Int)<=90)\/(57<(c:Int)/\(c:Int)<65)\/(48<=(c:Int)/\(c:Int)<=57)\/(c:Int)<48 by omega)with a|a|a|a|a|a|a
    ·obtain⟨a,h⟩:=a;go_wp2;go_round
     case rel=>exact⟨k+1,by omega,by go_num,by rw[Zdu,g.o,←f.o,ZeP (by rw[←b.o];omega)];rfl⟩
     case measure=>simp[intOf];omega
    ·(try have y:decide ((c:Int)<=122)=false:=(by simp;omega))
     (try have i:decide ((c:Int)<=90)=false:=(by simp;omega))
     go_wp2;go_ret;exact⟨Zai (Zb3 d (by rw[←f.o];exact ZdJ (by rw[←b.o];omega))).symm,rfl⟩
    ·obtain⟨a,h⟩:=a
     (try have i:decide ((c:Int)<=90)=false:=(by simp;omega))
     go_wp2;go_ret;exact⟨Zai (Zb3 d (by rw[←f.o];exact ZdJ (by rw[←b.o];omega))).symm,rfl⟩
    ·obtain⟨a,h⟩:=a;go_wp2;go_round
     case rel=>exact⟨k+1,by omega,by go_num,by rw[Zdu,g.o,←f.o,ZeP (by rw[←b.o];omega)];rfl⟩
     case measure=>simp[intOf];omega
    ·obtain⟨a,h⟩:=a
     (try have i:decide ((c:Int)<=90)=false:=(by simp;omega))
     go_wp2;go_ret;exact⟨Zai (Zb3 d (by rw[←f.o];exact ZdJ (by rw[←b.o];omega))).symm,rfl⟩
    ·obtain⟨a,h⟩:=a;go_wp2;go_round
     case rel=>exact⟨k+1,by omega,by go_num,by rw[Zdu,g.o,←f.o,ZeP (by rw[←b.o];omega)];rfl⟩
     case measure=>simp[intOf];omega
    ·(try have y:decide ((c:Int)<=122)=false:=(by simp;omega))
     (try have i:decide ((c:Int)<=90)=false:=(by simp;omega))
     go_wp2;go_ret;exact⟨Zai (Zb3 d (by rw[←f.o];exact ZdJ (by rw[←b.o];omega))).symm,rfl⟩
  ·have m:k=l.length:=by have:=t.o;omega
   have r:ZbS l=(decide (1<=n)&&decide (n<=32)):=by unfold ZbS;rw[←m,g.o,YaG,m,t.o]
   have j:=Hd r;clear r m;by_cases D:1<=n
   ·have F:(1:Int)<=n:=by omega
    by_cases C:n<=32
    ·have E:(n:Int)<=32:=by omega
     go_wp2;go_ret;exact⟨Zai (by rw[j.o];simp[D,C]),rfl⟩
    ·have E:(32:Int)<n:=by omega
     go_wp2;go_ret;exact⟨Zai (by rw[j.o];simp[C];omega),rfl⟩
   ·have F:(n:Int)<1:=by omega
    go_wp2;go_ret;exact⟨Zai (by rw[j.o];simp[D]),rfl⟩
theorem Zct (l:List UInt8)(w:World)(f:l.length<=9223372036854775807) :
  Calls prog 159 #[.string (S l)] w fun e w'=>e=.returned (.bool (Zah l))/\w=w':=by
 have a:=Hd (Zgo l w f);have k:((S l).size:Int)=(l.length:Int):=by rw[Zat]
 cases b:ZbS l with
 |false=>
  rw[b]at a;have d:=Hd (show Zah l=false by unfold Zah;rw[b,YaQ]);clear b;go_enter func159,ntmps159
  go_wp2_with fail;refine a.o.mono ?_;rintro e w'⟨rfl,rfl⟩;go_wp2;go_ret;exact⟨Zai d.o.symm,rfl⟩
 |true=>
  rw[b]at a;have n:=ZbK b;obtain⟨x,h⟩:∃x,x=l.getD 0 0:=⟨_,rfl⟩
  obtain⟨c,g⟩:∃c,c=x.toNat:=⟨_,rfl⟩
  have i:∀j:0<(S l).size,((S l)[0]'j).toNat=c:=fun j=>by rw[g,h,S_at l 0 (by omega) j]
  have d:=Hd (show Zah l=decide (c<=90)by unfold Zah;rw[b,YaG,←h,←g]);have m:(1:Int)<=l.length:=by omega
  clear b h g;go_enter func159,ntmps159
  go_wp2_with fail;refine a.o.mono ?_;rintro e w'⟨rfl,rfl⟩;go_wp2;go_ret;exact⟨Zai (by rw[d.o,decide_eq_decide];omega),rfl⟩
theorem ZdL (l:List UInt8)(w:World)(f:l.length<=9223372036854775807) :
  Calls prog 160 #[.string (S l)] w fun e w'=>e=.returned (.bool (ZaA l))/\w=w':=by
 have a:=Hd (Zgo l w f);have k:((S l).size:Int)=(l.length:Int):=by rw[Zat]
 cases b:ZbS l with
 |false=>
  rw[b]at a;have d:=Hd (show ZaA l=false by unfold ZaA;rw[b,YaQ]);clear b;go_enter func160,ntmps160
  go_wp2_with fail;refine a.o.mono ?_;rintro e w'⟨rfl,rfl⟩;go_wp2;go_ret;exact⟨Zai d.o.symm,rfl⟩
 |true=>
  rw[b]at a;have n:=ZbK b;obtain⟨x,h⟩:∃x,x=l.getD 0 0:=⟨_,rfl⟩
  obtain⟨c,g⟩:∃c,c=x.toNat:=⟨_,rfl⟩
  have i:∀j:0<(S l).size,((S l)[0]'j).toNat=c:=fun j=>by rw[g,h,S_at l 0 (by omega) j]
  have d:=Hd (show ZaA l=decide (97<=c)by unfold ZaA;rw[b,YaG,←h,←g]);have m:(1:Int)<=l.length:=by omega
  clear b h g;go_enter func160,ntmps160
  go_wp2_with fail;refine a.o.mono ?_;rintro e w'⟨rfl,rfl⟩;go_wp2;go_ret;exact⟨Zai (by rw[d.o,decide_eq_decide];omega),rfl⟩
theorem Zci (l m:List UInt8):((S l).toList==m)=decide (l=m):=by
 rw[Zaf];by_cases a:l=m
 ·subst a;simp
 ·simp[a]
theorem Zdc (l:List UInt8)(w:World) :
  Calls prog 210 #[.string (S l)] w fun e w'=>e=.returned (.bool (Zay l))/\w=w':=by
 have h:((S l).toList==[105,110,116])=decide (l=kInt):=Zci l kInt;have g:((S l).toList==[98,111,111,108])=decide (l=ZoC):=Zci l ZoC;have f:((S l).toList==[116,101,120,116])=decide (l=ZoD):=Zci l ZoD;by_cases a:l=kInt
 ·have b:=Hd (show Zay l=true by unfold Zay;simp[a]);rw[Yas a]at h;clear a g f;go_enter func210,ntmps210;go_wp2;go_ret;exact⟨Zai b.o.symm,rfl⟩
 rw[Yan a]at h;by_cases c:l=ZoC
 ·have b:=Hd (show Zay l=true by unfold Zay;simp[c]);rw[Yas c]at g;clear a c f;go_enter func210,ntmps210;go_wp2;go_ret;exact⟨Zai b.o.symm,rfl⟩
 rw[Yan c]at g;have b:=Hd (show Zay l=decide (l=ZoD)by unfold Zay;simp[a,c]);by_cases d:l=ZoD
 ·rw[Yas d]at f b;clear a c d;go_enter func210,ntmps210;go_wp2;go_ret;exact⟨Zai b.o.symm,rfl⟩
 ·rw[Yan d]at f b;clear a c d;go_enter func210,ntmps210;go_wp2;go_ret;exact⟨Zai b.o.symm,rfl⟩
theorem Zes (l:List UInt8)(w:World)(r:l.length<=9223372036854775807) :
  Calls prog 209 #[.string (S l)] w fun e w'=>e=.returned (.int .i64 (ZaL l:Nat))/\w=w':=by
 obtain⟨h,i⟩:∃h,h=ZaL l:=⟨_,rfl⟩
 have E:h<=9223372036854775807:=by rw[i];have:=ZdD l;omega
 rw[←i];have D:=Hd i;clear i;go_enter func209,ntmps209;go_wp2
 go_loop [0,3] (fun G s=>∃(a:List UInt8) (k:Nat),G=.string (S a)/\s=.int .i64 k/\k+ZaL a=h/\a.length<=9223372036854775807) (fun _ s=>h-(intOf s).toNat)
 case atStart=>exact⟨l,0,rfl,rfl,by rw[Ya6,D.o],r⟩
 case round=>
  obtain⟨a,k,rfl,rfl,u,J⟩:=hrel;have H:((S a).size:Int)=(a.length:Int):=by rw[Zat]
  have y:=Hd u;have I:k<=h:=by omega
  clear u;cases c:Zby a with
  |true=>
   have v:=Zdp c;have C:=ZcF c;have hcut:=ZfC a (a.length-2);have b:a.drop (a.length-2)=[91,93]:=by
    unfold Zby at c;simp at c;exact c.2
   rw[b]at hcut;have t:=ZgG a (a.length-2);have q:k+1+ZaL (a.take (a.length-2))=h:=by have:=y.o;omega
   have n:=Hd q;have d:k+1<=h:=by omega
   obtain⟨m,g⟩:∃m,m=a.length-2:=⟨_,rfl⟩
   rw[←g]at hcut t n;have A:(a.length:Int)-2=(m:Int):=by omega
   have p:(2:Int)<=(a.length:Int):=by omega
   have z:(0:Int)<=m:=by omega
   have x:(m:Int)<=(a.length:Int):=by omega
   have j:(a.take m).length<=9223372036854775807:=by rw[YaA];omega
   have F:((S [91,93]).toList==[91,93])=true:=by rw[Zaf];rfl
   have B:=Hd j;clear C b c q g j;generalize a.length=R at *;go_wp2;go_round
   case rel=>exact⟨a.take m,k+1,rfl,by go_num,n.o,B.o⟩
   case measure=>simp[intOf];omega
  |false=>
   have d:k=h:=by have:=y.o;rw[ZcR c]at this;omega
   by_cases v:2<=a.length
   ·have hcut:=ZfC a (a.length-2);have b:a.drop (a.length-2)≠[91,93]:=by
     unfold Zby at c;simp at c;exact c v
    obtain⟨m,g⟩:∃m,m=a.length-2:=⟨_,rfl⟩
    rw[←g]at hcut b;have A:(a.length:Int)-2=(m:Int):=by omega
    have p:(2:Int)<=(a.length:Int):=by omega
    have z:(0:Int)<=m:=by omega
    have x:(m:Int)<=(a.length:Int):=by omega
    have F:((S (a.drop m)).toList==[91,93])=false:=by rw[Zaf,Yah];exact b
    have f:=Hd d;clear b c g d;generalize a.length=R at *;go_wp2;go_ret;exact⟨ZhX (by rw[f.o]),rfl⟩
   ·have p:(a.length:Int)<2:=by omega
    have f:=Hd d;clear c d;go_wp2;go_ret;exact⟨ZhX (by rw[f.o]),rfl⟩
theorem ZbR (l:List UInt8)(w:World)(g:l.length<=9223372036854775807) :
  Calls prog 161 #[.string (S l)] w fun e w'=>e=.returned (.bool (Zag l))/\w=w':=by
 have h:=Hd (Zes l w g);have r:((S l).size:Int)=(l.length:Int):=by rw[Zat]
 have u:=ZdD l;have f:=ZgG l (l.length-2*ZaL l);have d:(Zbp l).length<=9223372036854775807:=by rw[Zc6];omega
 have c:=Hd (Zdc (Zbp l));have p:=Hd (fun w=>Zct (Zbp l) w d);have a:=Hd (show Zag l=(decide (ZaL l<=3)&&(Zay (Zbp l) || Zah (Zbp l)))from rfl);rw[show l.take (l.length-2*ZaL l)=Zbp l from rfl]at f;clear d;generalize ZaL l=j at *;obtain⟨m,i⟩:∃m,m=l.length-2*j:=⟨_,rfl⟩
 rw[←i]at f;have s:(l.length:Int)-2*(j:Int)=(m:Int):=by omega
 have q:(0:Int)<=m:=by omega
 have t:(m:Int)<=(l.length:Int):=by omega
 clear i;by_cases n:j<=3
 ·have k:(j:Int)<=3:=by omega
  rw[Yas n,YaG]at a;cases b:Zay (Zbp l)with
  |true=>
   rw[b]at c;rw[b,Ycs]at a;clear b;go_enter func161,ntmps161
   go_wp2_with fail;refine h.o.mono ?_;rintro e w'⟨rfl,rfl⟩;go_wp2_with fail;refine(c.o w).mono ?_;rintro e w'⟨rfl,rfl⟩;go_wp2;go_ret;exact⟨Zai a.o.symm,rfl⟩
  |false=>
   rw[b]at c;rw[b,YaV]at a;clear b;go_enter func161,ntmps161
   go_wp2_with fail;refine h.o.mono ?_;rintro e w'⟨rfl,rfl⟩;go_wp2_with fail;refine(c.o w).mono ?_;rintro e w'⟨rfl,rfl⟩;go_wp2_with fail;refine(p.o w).mono ?_;rintro e w'⟨rfl,rfl⟩;go_wp2;go_ret;exact⟨Zai a.o.symm,rfl⟩
 ·have k:(3:Int)<(j:Int):=by omega
  rw[Yan n,YaQ]at a;go_enter func161,ntmps161
  go_wp2_with fail;refine h.o.mono ?_;rintro e w'⟨rfl,rfl⟩;go_wp2;go_ret;exact⟨Zai a.o.symm,rfl⟩
theorem ZlP (l:List UInt8)(w:World)(f:l.length<=9223372036854775807) :
  Calls prog 217 #[.string (S l),.string ⟨#[91,93]⟩] w fun e w'=>e=.returned (.bool (Zby l))/\w=w':=by
 have h:((S l).size:Int)=(l.length:Int):=by rw[Zat]
 by_cases a:2<=l.length
 ·obtain⟨m,d⟩:∃m,m=l.length-2:=⟨_,rfl⟩
  have hcut:=ZfC l m;have i:(l.length:Int)-2=(m:Int):=by omega
  have c:(2:Int)<=(l.length:Int):=by omega
  have g:(0:Int)<=m:=by omega
  have j:(m:Int)<=(l.length:Int):=by omega
  have b:=Hd (show Zby l=((S (l.drop m)).toList==[91,93])by rw[Zaf,d];unfold Zby;rw[Yas a,YaG,Ybk,YaP,beq_iff_eq]);clear d a;generalize l.length=L at *;go_enter func217,ntmps217;go_wp2;go_ret;exact⟨Zai b.o.symm,rfl⟩
 ·have c:(l.length:Int)<2:=by omega
  have b:=Hd (show Zby l=false by unfold Zby;rw[Yan a,YaQ]);clear a;generalize l.length=L at *;go_enter func217,ntmps217;go_wp2;go_ret;exact⟨Zai b.o.symm,rfl⟩
theorem Zgy (l:List UInt8)(w:World)(d:l.length<=9223372036854775807)(b:Zby l=true) :
  Calls prog 218 #[.string (S l),.string ⟨#[91,93]⟩] w fun e w'=>e=.returned (.string (S (l.take (l.length-2))))/\w=w':=by
 have i:((S l).size:Int)=(l.length:Int):=by rw[Zat]
 have f:=Zdp b;obtain⟨m,c⟩:∃m,m=l.length-2:=⟨_,rfl⟩
 have hcut:=ZfC l m;have j:=ZgG l m;have k:(l.length:Int)-2=(m:Int):=by omega
 have h:(2:Int)<=(l.length:Int):=by omega
 have g:(0:Int)<=m:=by omega
 have n:(m:Int)<=(l.length:Int):=by omega
 have a:l.drop m=[91,93]:=by
  unfold Zby at b;simp at b;rw[c];exact b.2
 rw[a]at hcut;have p:((S [91,93]).toList==[91,93])=true:=by rw[Zaf];rfl
 rw[←c];clear c f b a;generalize l.length=L at *;go_enter func218,ntmps218;go_wp2;go_ret;exact⟨rfl,rfl⟩
theorem ZtE:(prog.info? 5).map (fun i=>(i.zero,i.size,i.bytes))=some (some (.int .u8 0),1,1):=by kernel_rfl
theorem ZaE (s:ByteArray)(w:World)(A:s.size<=281474976710656) :
  Calls prog 74 #[.string s] w fun e w'=>e=.returned (.string s)/\Below w.heap.size w w':=by
 by_cases m:s.size=0
 ·have C:s=⟨#[]⟩:=by
   apply ByteArray.ext;exact Array.eq_empty_of_size_eq_zero m
  subst C;go_enter func74,ntmps74;go_wp2;go_ret;exact⟨rfl,Yab _ _⟩
 ·obtain⟨l,h,u,b,n⟩:=info_parts ZtE;have d:(prog.info? 5).map (·.size)=some 1:=by rw[h];simp[b]
  have v:prog.cellsOf 5=1:=by simp[Program.cellsOf,h,b]
  obtain⟨a,j⟩:∃a,a=madeCells (Value.int .u8 0).cells (((s.size:Nat):Int).toNat*l.size):=⟨_,rfl⟩
  have G:a.size=s.size:=by rw[j,size_madeCells,b];simp
  have F:∀W:World,(Instr.makeSlice 162 (.int .i64 (s.size:Int)) (.int .i64 (s.size:Int))).run prog W=.ok (.slice (some ⟨W.heap.size,0,none⟩) s.size s.size) (W.alloc (.cells a 5)):=fun W=>by
   have E:=run_make (P:=prog) W 162 5 l (.int .u8 0) underlying162 h u .i64 .i64 (s.size:Int) (s.size:Int) (by omega) (by omega) (by rw[n];omega) (by omega);rw[←j]at E;simpa using E
  clear j;have z:=Lib.run_copy_row_string (P:=prog) (w.alloc (.cells a 5)) 162 9 3 5 w.heap.size 0 s.size s.size s a 5 underlying162 d (heap_alloc_new w _) (Yad _) (by omega);obtain⟨c,i⟩:∃c,c=(a.toList.take 0++Lib.byteCells s.data.toList++a.toList.drop (0+s.size)).toArray:=⟨_,rfl⟩
  rw[←i]at z;have g:c.toList=Lib.byteCells s.data.toList:=by
   rw[i,List.toList_toArray,Yb0,Ybq,List.drop_of_length_le (by rw[Yby];omega),YaN]
  have D:c.size=s.size:=by rw[←Yby,g,Lib.byteCells_length,←Lib.size_eq]
  have f:((w.alloc (.cells a 5)).setRow w.heap.size c).heap[w.heap.size]?=some (.cells c 5 (0,0)):=setRow_heap _ _ a _ 5 (0,0) (heap_alloc_new w _);have q:s.data.toList≠[]:=fun e=>m (by rw[Lib.size_eq,e];rfl);have y:=Lib.run_unsafeString_row (P:=prog) ((w.alloc (.cells a 5)).setRow w.heap.size c) 163 3 9 5 underlying163 v w.heap.size c.size (by unfold World.shape?;rw[f]) s.data.toList q (by rw[←Lib.size_eq];omega) (by rw[←Lib.size_eq];omega)
   (fun I x B=>Lib.cells_of_row f c.size I _ (by rw[Yaz (by rw[Yby];exact Yad _),g];simp[Lib.byteCells,B]))
  rw[←Lib.size_eq]at y;clear i;go_enter func74,ntmps74;go_wp2;go_ret;have r:Below w.heap.size w (w.alloc (.cells a 5)):=(Yab _ w).alloc (Yad _) _;have t:Below w.heap.size (w.alloc (.cells a 5)) ((w.alloc (.cells a 5)).setRow w.heap.size c):=⟨rfl,rfl,rfl,by simp,fun k H=>setRow_other _ _ _ _ (by omega)⟩;exact⟨rfl,Lib.below_freeze (r.trans t) (p:=⟨w.heap.size,0,none⟩) (Yad _) _⟩
theorem Zoj (l:List UInt8):Lib.indexByte l 46=if ZaQ l<l.length then(ZaQ l:Int)else -1:=by
 unfold ZaQ;induction l with
 |nil=>rfl
 |cons b l d=>
  rw[Lib.indexByte,List.findIdx_cons,d];cases h:(b==46)with
  |true=>simp
  |false=>
   have g:List.findIdx (fun c=>c==46) l<=l.length:=List.findIdx_le_length;simp only[Yb2,if_false,cond_false,YaI];by_cases f:List.findIdx (fun c=>c==46) l<l.length
   ·have a:List.findIdx (fun c=>c==46) l+1<l.length+1:=by omega
    rw[Yay f,Yay a,Yar (by simp)];omega
   ·have a:¬List.findIdx (fun c=>c==46) l+1<l.length+1:=by omega
    rw[Yar f,Yar a];rfl
theorem ZeI (s:ByteArray)(c:Int)(w:World) :
  Calls prog 253 #[.string s,.int .u8 c] w fun e w'=>e=.returned (.int .i64 (Lib.indexByte s.data.toList c.toNat.toUInt8))/\w=w':=by
 go_enter func253,ntmps253;go_wp2;rw[run_callFunc_extern func260 (by kernel_rfl) (by kernel_rfl) (by kernel_rfl) (e:=Extern.BytealgIndexByte.indexByte) (by kernel_rfl),Lib.run_indexByteString];simp only[Result.andThen];rw[Oper.upon_value];go_wp2;go_ret;exact⟨rfl,rfl⟩
theorem Zok (s:ByteArray)(w:World) :
  Calls prog 245 #[.string s,.string ⟨#[46]⟩] w fun e w'=>e=.returned (.int .i64 (Lib.indexByte s.data.toList 46))/\w=w':=by
 go_enter func245,ntmps245
 go_wp2_with (go_at_call 253;refine(ZeI _ _ _).mono ?_;rintro e w'⟨rfl,rfl⟩)
 ·have a:([46]==s.toList)=true:=by assumption
  go_ret;refine⟨?_,rfl⟩;have e:s.data.toList=[46]:=by rw[←Lib.toList_data];exact(beq_iff_eq.1 a).symm
  rw[e];simp[Lib.indexByte]
 ·go_ret;exact⟨rfl,rfl⟩
def ZsS (l:List UInt8)(w:World)(e:Ending)(w':World):Prop:=
 (∃a,w'=w.drewN a)/\((ZaQ l<l.length/\e=.returned (.tuple #[.string (S (l.take (ZaQ l))),.string (S (l.drop (ZaQ l+1))),.bool true]))\/
  (l.length<=ZaQ l/\e=.returned (.tuple #[.string (S l),.string ⟨#[]⟩,.bool false])))
theorem ZjJ (l:List UInt8)(w:World)(i:l.length<=9223372036854775807) :
  Calls prog 234 #[.string (S l),.string ⟨#[46]⟩] w (ZsS l w):=by
 have a:=Zok (S l) w;rw[ZkF,Zoj]at a;by_cases f:ZaQ l<l.length
 ·rw[Yay f]at a;have b:=Hd a;have m:((S l).size:Int)=(l.length:Int):=by rw[Zat]
  have c:=Hd f;obtain⟨k,d⟩:∃k,k=ZaQ l:=⟨_,rfl⟩
  rw[←d]at f b;have j:=Hd d;have g:=ZgG l k;have h:=ZfC l (k+1);have s:(0:Int)<=(k:Int)+1:=by omega
  have q:(k:Int)+1<=(l.length:Int):=by omega
  have p:(0:Int)<=(k:Int):=by omega
  have r:(k:Int)<=(l.length:Int):=by omega
  have w2:((k:Int)+1).toNat=k+1:=by omega
  have n:IntKind.i64.wrap ((k:Int)+1)=(k:Int)+1:=IntWalk.i64_in _ (by omega);clear a d f;go_enter func234,ntmps234
  go_wp2_with (go_at_call 245;refine b.o.mono ?_;rintro e w'⟨rfl,rfl⟩)
  go_quiet (fail)
  go_wp2;go_ret3;exact⟨⟨nq,rfl⟩,.inl ⟨c.o,by rw[←j.o];rfl⟩⟩
 ·rw[Yar f]at a;have b:=Hd a;have c:=Hd (show l.length<=ZaQ l by omega);clear a f;go_enter func234,ntmps234
  go_wp2_with (go_at_call 245;refine b.o.mono ?_;rintro e w'⟨rfl,rfl⟩)
  go_ret3;exact⟨⟨0,rfl⟩,.inr ⟨c.o,rfl⟩⟩
theorem Zr4 (l:List UInt8)(w:World)(a:l.length<=9223372036854775807) :
  Calls prog 213 #[.string (S l),.string ⟨#[46]⟩] w (ZsS l w):=by
 go_enter func213,ntmps213
 go_wp2_with fail;refine(ZjJ l w a).mono ?_;rintro e w'⟨f,c⟩;have d:=Hd f;clear f;rcases c with⟨c,rfl⟩|⟨c,rfl⟩
 ·have b:=Hd c;clear c;go_wp2;go_ret3;exact⟨d.o,.inl ⟨b.o,rfl⟩⟩
 ·have b:=Hd c;clear c;go_wp2;go_ret3;exact⟨d.o,.inr ⟨b.o,rfl⟩⟩
def okP (p:Int->Bool)(i:Nat)(c:UInt8):Bool:=(decide (i≠0) || p c.toNat)&&(Zcg c || ZdO c)
def Zgj (p:Int->Bool)(l:List UInt8)(k:Nat):Bool:=(List.range k).all fun i=>okP p i (l.getD i 0)
def Zda (p:Int->Bool)(l:List UInt8):Bool:=Zgj p l l.length&&(decide (1<=l.length)&&decide (l.length<=32))
theorem ZcI (p:Int->Bool)(l:List UInt8)(k:Nat):Zgj p l (k+1)=(Zgj p l k&&okP p k (l.getD k 0)):=by
 unfold Zgj;rw[YbU,Yct];simp
theorem Zme (p:Int->Bool)(l:List UInt8):Zgj p l 0=true:=by simp[Zgj]
theorem Zbj {p:Int->Bool}{l:List UInt8}{k:Nat}(a:k<l.length)(c:okP p k (l.getD k 0)=false):Zda p l=false:=by
 have b:Zgj p l l.length=false:=by
  unfold Zgj;rw[Yb4];exact⟨k,by simpa using a,by rw[c];decide⟩
 unfold Zda;rw[b,YaQ]
theorem Zj8 {p:Int->Bool}{l:List UInt8}(a:32<l.length):Zda p l=false:=by
 unfold Zda;rw[Yan (show ¬l.length<=32 by omega),Yco,Yco]
theorem Zj9 (p:Int->Bool):Zda p []=false:=by unfold Zda;simp
def upI (a:Int):Bool:=decide (65<=a)&&decide (a<=90)
def loI (a:Int):Bool:=decide (97<=a)&&decide (a<=122)
def leI (a:Int):Bool:=upI a || loI a
theorem Zgg (p:Int->Bool)(a:UInt8->Bool)(l:List UInt8)(h:∀c:UInt8,(p c.toNat&&(Zcg c || ZdO c))=(Zcg c&&a c)):Zda p l=(ZbS l&&a (l.getD 0 0)):=by
 unfold Zda ZbS;cases l with
 |nil=>simp
 |cons b t=>
  have d:Zgj p (b::t) (b::t).length=(okTo (b::t) (b::t).length&&a b):=by
   unfold Zgj okTo;rw[YaI,List.range_succ_eq_map,Ycg,Ycg];have j:okP p 0 ((b::t).getD 0 0)=(okAt 0 ((b::t).getD 0 0)&&a b):=by
    show okP p 0 b=(okAt 0 b&&a b)
    unfold okP okAt;have:=h b;simp only[ne_eq,not_true_eq_false,decide_false,YaV,YaQ,Bool.or_false];exact this
   have g:((List.range t.length).map Nat.succ).all (fun i=>okP p i ((b::t).getD i 0))=((List.range t.length).map Nat.succ).all (fun i=>okAt i ((b::t).getD i 0)):=by
    rw[List.all_map,List.all_map];exact Ya8 (fun f=>(List.range t.length).all f) (funext fun i=>by simp[okP,okAt])
   rw[j,g,Ybh,Ybh]
   congr 1
   exact Bool.and_comm _ _
  rw[d];show _=(_&&a b)
  cases okTo (b::t) (b::t).length<;>cases a b<;>simp
theorem ZoX (l:List UInt8):Zda upI l=Zah l:=by
 unfold Zah;rw[Zgg upI (fun c=>decide (c.toNat<=90)) l (fun c=>by
  unfold upI Zcg ZdO;rw[Ybk];simp only[Yaw,YaZ,YaP];omega)]
theorem ZoW (l:List UInt8):Zda loI l=ZaA l:=by
 unfold ZaA;rw[Zgg loI (fun c=>decide (97<=c.toNat)) l (fun c=>by
  unfold loI Zcg ZdO;rw[Ybk];simp only[Yaw,YaZ,YaP];omega)]
theorem ZoV (l:List UInt8):Zda leI l=ZbS l:=by
 rw[Zgg leI (fun _=>true) l (fun c=>by
  unfold leI upI loI Zcg ZdO;rw[Ybk];simp only[Yaw,YaZ,YaP,and_true];omega),Bool.and_true]
theorem ZsI (l:List UInt8)(k:Nat)(b:k<l.length)(c:k<(S l).size) :
  ((l.getD k 0).toNat<128/\Utf8.decode (S l) k=((l.getD k 0).toNat,1))\/
  (128<=(l.getD k 0).toNat/\128<=(Utf8.decode (S l) k).1/\(Utf8.decode (S l) k).1<=2147483647/\1<=(Utf8.decode (S l) k).2):=by
 have e:=S_at l k b c;by_cases a:(l.getD k 0).toNat<128
 ·exact .inl ⟨a,by rw[decode_ascii (S l) k c (by rw[e];exact a),e]⟩
 ·have:=decode_high (S l) k c (by rw[e];omega);exact .inr ⟨by omega,this.1,decode_le (S l) k,this.2⟩
theorem Zjp (b:Int)(w:World):Calls prog 185 #[.int .i32 b] w fun e w'=>e=.returned (.bool (upI b))/\w=w':=by
 unfold upI;by_cases a:65<=b
 ·rw[Yas a,YaG];go_enter func185,ntmps185;go_wp2;go_ret;exact⟨rfl,rfl⟩
 ·rw[Yan a,YaQ];have c:b<65:=by omega
  go_enter func185,ntmps185;go_wp2;go_ret;exact⟨rfl,rfl⟩
theorem ZiX (b:Int)(w:World):Calls prog 214 #[.int .i32 b] w fun e w'=>e=.returned (.bool (loI b))/\w=w':=by
 unfold loI;by_cases a:97<=b
 ·rw[Yas a,YaG];go_enter func214,ntmps214;go_wp2;go_ret;exact⟨rfl,rfl⟩
 ·rw[Yan a,YaQ];have c:b<97:=by omega
  go_enter func214,ntmps214;go_wp2;go_ret;exact⟨rfl,rfl⟩
theorem Zl0 (c:Int)(w:World):Calls prog 221 #[.int .i32 c] w fun e w'=>e=.returned (.bool (leI c))/\w=w':=by
 have b:=Hd (Zjp c w);have d:=Hd (ZiX c w);unfold leI;cases a:upI c with
 |true=>
  rw[a]at b;rw[Ycs];clear a;go_enter func221,ntmps221
  go_wp2_with fail;refine b.o.mono ?_;rintro e w'⟨rfl,rfl⟩;go_wp2;go_ret;exact⟨rfl,rfl⟩
 |false=>
  rw[a]at b;rw[YaV];clear a;go_enter func221,ntmps221
  go_wp2_with fail;refine b.o.mono ?_;rintro e w'⟨rfl,rfl⟩;go_wp2_with fail;refine d.o.mono ?_;rintro e w'⟨rfl,rfl⟩;go_wp2;go_ret;exact⟨rfl,rfl⟩
theorem Ymf (b:Fn)(first a:Array Value)(w:World):(Instr.makeFunc b first a).run prog w=.ok (.func b first a) w:=rfl
