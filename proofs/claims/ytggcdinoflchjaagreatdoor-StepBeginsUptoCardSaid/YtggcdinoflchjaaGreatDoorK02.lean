/- laws -/
import Derived.Test.YtggcdinoflchjaaGreatDoorK01
import Derived.Test.YtggcdinoflchjaaGreatDoorProg
import Derived.IntWalk
import Derived.Lib.Bytealg
import Derived.Lib.BufferWrite
import Derived.Lib.UnsafeStr
import Derived.Laws.MakeOwn
import Derived.Laws.Strings3
import Derived.Deep.QuietTactic
import Derived.BigQuiet
import Derived.Laws.RangeAny
set_option maxRecDepth 100000
set_option maxHeartbeats 16000000
namespace Go.Proofs.YtggcdinoflchjaaGreatDoor
open Go.RowKit
structure Fld where
 name:List UInt8
 kind:List UInt8
 tr:Bool
structure Cat where
 fr:Int
 till:Int
 at_:Int
 cls:List UInt8
abbrev strV (x:List UInt8):Value:=.string (S x)
abbrev fldV (f:Fld):Value:=.agg #[.string (S f.name),.string (S f.kind),.bool f.tr]
abbrev catV (c:Cat):Value:=.agg #[.int .i64 c.fr,.int .i64 c.till,.int .i64 c.at_,.string (S c.cls)]
abbrev StrR:Zao (List UInt8):=Flat strV
abbrev FldR:Zao Fld:=Flat fldV
abbrev CatR:Zao Cat:=Flat catV
theorem StrR.st:Stays StrR:=Flat.stays _
theorem FldR.st:Stays FldR:=Flat.stays _
theorem CatR.st:Stays CatR:=Flat.stays _
theorem Zcp {α:Type} (p:α->Bool) (l:List α) (k:Nat) (x:α) (a:l[k]? = some x):(l.take (k+1)).all p=((l.take k).all p && p x):=by
 rw [YaL,a];simp
theorem Zah {α:Type} (p:α->Bool) (l:List α) (k:Nat) (x:α) (a:l[k]? = some x):(l.take (k+1)).any p=((l.take k).any p || p x):=by
 rw [YaL,a];simp
theorem Zcz {α:Type} (p:α->Bool) (l:List α):l.all p = !l.any (fun x=>!p x):=by
 induction l with
 | nil=>rfl
 | cons x l a=>simp [a]
def Ze6 (l:List (List UInt8)) (k:Nat):Bool:=!(l.take k).any (fun a=>a == l.getD k [])
def Zbu (l:List (List UInt8)) (k:Nat):Bool:=(List.range k).all (Ze6 l)
def ZbB (l:List (List UInt8)):Bool:=Zbu l l.length
theorem Zdo (l:List (List UInt8)):Zbu l 0=true:=by simp [Zbu]
theorem Zdn (l:List (List UInt8)) (k:Nat):Zbu l (k+1)=(Zbu l k && Ze6 l k):=by
 unfold Zbu;rw [YbR,Ycp];simp
theorem ZeZ (l:List (List UInt8)) (k m:Nat) (d:k<=m) (b:Zbu l k=false):Zbu l m=false:=by
 unfold Zbu at b ⊢;rw [Yb2] at b ⊢;obtain ⟨i,a,c⟩:=b;exact ⟨i,by simp at a ⊢;omega,c⟩
def Box (w:World) (B:Nat) (cs:Array Value) (t:TypeId):Prop:=w.heap[B]? = some (.cells cs t (0,0))
theorem Box.new (w:World) (cs:Array Value) (t:TypeId):Box (w.alloc (.cells cs t)) w.heap.size cs t:=heap_alloc_new w _
theorem Box.cell {w:World} {B:Nat} {cs:Array Value} {t:TypeId} (b:Box w B cs t) (c:Nat) {v:Value} (a:cs[c]? = some v):w.cell? ⟨B,c,none⟩=some v:=by
 unfold Box at b;unfold World.cell?;rw [b];exact a
theorem Box.keep {S:Nat->Prop} {w w':World} {B:Nat} {cs:Array Value} {t:TypeId} (c:Box w B cs t) (b:Only S w w') (a:¬ S B):Box w' B cs t:=b.heap c a
theorem Box.below {w w':World} {B:Nat} {cs:Array Value} {t:TypeId} (b:Box w B cs t) (a:Below w.heap.size w w'):Box w' B cs t:=b.keep (Yad (S:=fun _=>False) a) id
theorem Box.lt {w:World} {B:Nat} {cs:Array Value} {t:TypeId} (a:Box w B cs t):B<w.heap.size:=lt_of_block a
end Go.Proofs.YtggcdinoflchjaaGreatDoor
namespace Go.Proofs.YtggcdinoflchjaaGreatDoor

def Zb6 (c:UInt8):Bool:=(decide (97<=c.toNat) && decide (c.toNat<=122)) || (decide (65<=c.toNat) && decide (c.toNat<=90))
def Zdv (c:UInt8):Bool:=decide (48<=c.toNat) && decide (c.toNat<=57)
def okAt (i:Nat) (c:UInt8):Bool:=Zb6 c || (decide (i ≠ 0) && Zdv c)
def okTo (l:List UInt8) (k:Nat):Bool:=(List.range k).all fun i=>okAt i (l.getD i 0)
def ZbJ (l:List UInt8):Bool:=okTo l l.length && (decide (1<=l.length) && decide (l.length<=32))
def Zal (l:List UInt8):Bool:=ZbJ l && decide ((l.getD 0 0).toNat<=90)
def ZaC (l:List UInt8):Bool:=ZbJ l && decide (97<=(l.getD 0 0).toNat)
def kInt:List UInt8:=[105,110,116]
def ZmE:List UInt8:=[98,111,111,108]
def ZmF:List UInt8:=[116,101,120,116]
def ZaB (l:List UInt8):Bool:=decide (l=kInt) || decide (l=ZmE) || decide (l=ZmF)
def Zbk (l:List UInt8):Bool:=decide (2<=l.length) && decide (l.drop (l.length - 2)=[91,93])
def ZaO (l:List UInt8):Nat:=if a:Zbk l=true then ZaO (l.take (l.length - 2))+1 else 0
 termination_by l.length
 decreasing_by
  have:2<=l.length:=by
   unfold Zbk at a;simp at a
   exact a.1
  rw [Yay];omega
theorem Zda {l:List UInt8} (a:Zbk l=true):2<=l.length:=by
 unfold Zbk at a;simp at a
 exact a.1
theorem Zcr {l:List UInt8} (a:Zbk l=true):ZaO l=ZaO (l.take (l.length - 2))+1:=by rw [ZaO,dif_pos a]
theorem ZcC {l:List UInt8} (a:Zbk l=false):ZaO l=0:=by rw [ZaO,dif_neg (by rw [a];decide)]
theorem Zdl (l:List UInt8):2 * ZaO l<=l.length:=by
 cases a:Zbk l with
 | true=>
  have c:=Zda a;have b:=Zdl (l.take (l.length - 2));rw [Yay] at b;rw [Zcr a];omega
 | false=>rw [ZcC a];omega
 termination_by l.length
 decreasing_by rw [Yay];omega
def Zbe (l:List UInt8):List UInt8:=l.take (l.length - 2 * ZaO l)
theorem ZcQ (l:List UInt8):(Zbe l).length=l.length - 2 * ZaO l:=by unfold Zbe;rw [Yay];omega
def ZjQ (l:List UInt8):Bool:=ZaB l || Zal l
def Zaj (l:List UInt8):Bool:=decide (ZaO l<=3) && ZjQ (Zbe l)
def Zc0 (l:List UInt8):List UInt8:=if Zaj l=true/\1<=ZaO l then l.take (l.length - 2) else []
def ZaP (l:List UInt8):Nat:=l.findIdx (fun c=>c == 46)
def ZaU (l:List UInt8):Bool:=decide (ZaP l<l.length) && (Zal (l.take (ZaP l)) && ZaC (l.drop (ZaP l+1)))

theorem Zdf (l:List UInt8) (k:Nat):okTo l (k+1)=(okTo l k && okAt k (l.getD k 0)):=by
 unfold okTo;rw [YbR,Ycp];simp
theorem Zm2 (l:List UInt8):okTo l 0=true:=by simp [okTo]
theorem Zp8 (l:List UInt8) (k m:Nat) (d:k<=m) (b:okTo l k=false):okTo l m=false:=by
 unfold okTo at b ⊢;rw [Yb2] at b ⊢;obtain ⟨i,a,c⟩:=b;exact ⟨i,by simp at a ⊢;omega,c⟩
theorem Zby {l:List UInt8} (a:ZbJ l=true):1<=l.length/\l.length<=32:=by
 unfold ZbJ at a;simp at a
 exact a.2
theorem Zgz {l:List UInt8} (a:ZbJ l=true) (i:Nat) (b:i<l.length):okAt i (l.getD i 0)=true:=by
 unfold ZbJ okTo at a;simp only [Yar,YaE] at a;exact a.1 i (by simpa using b)
theorem Zp7 (i:Nat) (c:UInt8) (a:okAt i c=true):c ≠ 91/\c ≠ 93/\c ≠ 46:=by
 refine ⟨?_,?_,?_⟩ <;> (rintro rfl;revert a;unfold okAt;cases i <;> simp <;> decide)
theorem Zde {l:List UInt8} (d:ZbJ l=true):Zbk l=false:=by
 cases a:Zbk l with
 | false=>rfl
 | true=>
  exfalso
  have f:=Zda a;unfold Zbk at a;simp at a
  have b:(l.drop (l.length - 2))[0]? = some 91:=by rw [a.2];rfl
  rw [YbH,YbY] at b;have c:l.getD (l.length - 2) 0=91:=by simp [List.getD,b]
  exact (Zp7 _ _ (Zgz d (l.length - 2) (by omega))).1 c
theorem ZdV {l:List UInt8} (a:ZaB l=true):ZbJ l=true:=by
 unfold ZaB at a;simp at a
 rcases a with (a|a)|a <;> subst a <;> decide
theorem ZhO {l:List UInt8} (a:ZaB l=true):Zal l=false:=by
 unfold ZaB at a;simp at a
 rcases a with (a|a)|a <;> subst a <;> decide
theorem Zbg {l:List UInt8} (a:Zal l=true):ZbJ l=true:=by unfold Zal at a;simp at a;exact a.1
theorem ZdN {l:List UInt8} (a:ZjQ l=true):ZbJ l=true:=by
 unfold ZjQ at a;simp at a
 rcases a with a|a
 ·exact ZdV a
 ·exact Zbg a
def ofL (l:List UInt8):List UInt8:=l++[91,93]
theorem Zeu (l:List UInt8):(ofL l).length=l.length+2:=by simp [ofL]
theorem ZoK (l:List UInt8):Zbk (ofL l)=true:=by
 unfold Zbk;rw [Zeu];simp [ofL]
theorem ZoL (l:List UInt8):(ofL l).take ((ofL l).length - 2)=l:=by
 rw [Zeu];simp [ofL]
theorem ZgA (l:List UInt8):ZaO (ofL l)=ZaO l+1:=by rw [Zcr (ZoK l),ZoL]
theorem ZoJ (l:List UInt8):Zbe (ofL l)=Zbe l:=by
 have a:=Zdl l;unfold Zbe;rw [ZgA,Zeu];unfold ofL;rw [YbC (by omega)]
 congr 1
 omega
theorem Zl5 {l:List UInt8} (a:Zbk l=true):ofL (l.take (l.length - 2))=l:=by
 unfold Zbk at a;simp at a
 unfold ofL;rw [←a.2];exact Ya1 _ _
theorem Zha {l:List UInt8} (b:1<=ZaO l):Zbk l=true:=by
 cases a:Zbk l with
 | true=>rfl
 | false=>rw [ZcC a] at b;omega
theorem ZhL (l:List UInt8):Zaj (ofL l)=(Zaj l && decide (ZaO l<=2)):=by
 unfold Zaj;rw [ZgA,ZoJ];by_cases b:ZaO l<=2
 ·have a:ZaO l<=3:=by omega
  simp [b,a]
 ·simp [b]
theorem Zj7 {l:List UInt8} (j:Zaj l=true) (c:1<=ZaO l):Zaj (Zc0 l)=true/\ZaO (Zc0 l)=ZaO l - 1/\ofL (Zc0 l)=l:=by
 have f:=Zha c;have g:Zc0 l=l.take (l.length - 2):=by unfold Zc0;rw [YaC ⟨j,c⟩]
 have b:ofL (Zc0 l)=l:=by rw [g];exact Zl5 f
 have a:=ZhL (Zc0 l);have d:=ZgA (Zc0 l);rw [b] at a d;rw [j] at a;have h:Zaj (Zc0 l)=true:=by
  cases i:Zaj (Zc0 l) with
  | true=>rfl
  | false=>rw [i] at a;simp at a
 exact ⟨h,by omega,b⟩
theorem Zew {l:List UInt8} (a:Zaj l=true):ZbJ (Zbe l)=true:=by
 unfold Zaj at a;simp at a
 exact ZdN a.2
theorem Zg2 {l:List UInt8} (a:ZbJ l=true):ZaO l=0:=ZcC (Zde a)
end Go.Proofs.YtggcdinoflchjaaGreatDoor
namespace Go.Proofs.YtggcdinoflchjaaGreatDoor
open Go.RowKit
theorem Zan {a b:Bool} (c:a=b):Ending.returned (.bool a)=.returned (.bool b):=by rw [c]
theorem Zee {k:Nat} {c:UInt8} (a:(97<=c.toNat/\c.toNat<=122)\/(65<=c.toNat/\c.toNat<=90)\/(k ≠ 0/\48<=c.toNat/\c.toNat<=57)):okAt k c=true:=by
 unfold okAt Zb6 Zdv;simp only [YaX,Yar,YaO];omega
theorem Zdr {k:Nat} {c:UInt8} (b:¬ ((97<=c.toNat/\c.toNat<=122)\/(65<=c.toNat/\c.toNat<=90)\/(k ≠ 0/\48<=c.toNat/\c.toNat<=57))):okAt k c=false:=by
 cases a:okAt k c with
 | false=>rfl
 | true=>
  exfalso
  apply b
  unfold okAt Zb6 Zdv at a;simp only [YaX,Yar,YaO] at a;omega
theorem ZbV {l:List UInt8} {k:Nat} (b:k<l.length) (c:okAt k (l.getD k 0)=false):ZbJ l=false:=by
 have a:okTo l (k+1)=false:=by rw [Zdf,c,Ycl]
 unfold ZbJ;rw [Zp8 l (k+1) l.length b a,YaF]
theorem Zfs (l:List UInt8) (w:World) (u:l.length<=9223372036854775807) :
  Calls Tryz.prog 229 #[.string (S l)] w fun e w'=>e=.returned (.bool (ZbJ l))/\w=w':=by
 have C:((S l).size:Int)=(l.length:Int):=by rw [Zay]
 obtain ⟨n,v⟩:∃ n,n=l.length:=⟨_,rfl⟩
 rw [←v] at C;have t:=Hd v;have J:n<=9223372036854775807:=by omega
 clear v u;go_enter Tryz.func229,Tryz.ntmps229;go_wp2
 go_loop [3] (fun s=>∃ k:Nat,k<=n/\s=.int .i64 k/\okTo l k=true) (fun s=>n - (intOf s).toNat)
 case atStart=>exact ⟨0,Yai _,rfl,Zm2 l⟩
 case round=>
  obtain ⟨k,M,rfl,r⟩:=hrel;have g:=Hd r;clear r;by_cases K:k<n
  ·have d:k<l.length:=by have:=t.o;omega
   obtain ⟨x,y⟩:∃ x,x=l.getD k 0:=⟨_,rfl⟩
   obtain ⟨c,p⟩:∃ c,c=x.toNat:=⟨_,rfl⟩
   have I:∀ H:k<(S l).size,((S l)[k]'H).toNat=c:=fun H=>by rw [p,y,S_at l k d H]
   have f:=Hd y;have b:=Hd p;have G:c<256:=by rw [p];exact UInt8.toNat_lt _
   clear y p;by_cases F:k=0
   ·subst F;rcases (show (97<=(c:Int)/\(c:Int)<=122)\/122<(c:Int)\/(90<(c:Int)/\(c:Int)<97)\/(65<=(c:Int)/\(c:Int)<=90)\/(57<(c:Int)/\(c:Int)<65)\/(48<=(c:Int)/\(c:Int)<=57)\/(c:Int)<48 by omega) with a|a|a|a|a|a|a
    ·obtain ⟨a,h⟩:=a;go_wp2
     go_round
     case rel=>exact ⟨1,by omega,rfl,by rw [show 1=0+1 from rfl,Zdf,g.o,←f.o,Zee (by rw [←b.o];omega)];rfl⟩
     case measure=>simp [intOf];omega
    ·(try have z:decide ((c:Int)<=122)=false:=(by simp;omega))
     (try have i:decide ((c:Int)<=90)=false:=(by simp;omega))
     go_wp2;go_ret;exact ⟨Zan (ZbV d (by rw [←f.o];exact Zdr (by rw [←b.o];omega))).symm,rfl⟩
    ·obtain ⟨a,h⟩:=a
     (try have i:decide ((c:Int)<=90)=false:=(by simp;omega))
     go_wp2;go_ret;exact ⟨Zan (ZbV d (by rw [←f.o];exact Zdr (by rw [←b.o];omega))).symm,rfl⟩
    ·obtain ⟨a,h⟩:=a;go_wp2
     go_round
     case rel=>exact ⟨1,by omega,rfl,by rw [show 1=0+1 from rfl,Zdf,g.o,←f.o,Zee (by rw [←b.o];omega)];rfl⟩
     case measure=>simp [intOf];omega
    ·obtain ⟨a,h⟩:=a
     (try have i:decide ((c:Int)<=90)=false:=(by simp;omega))
     go_wp2;go_ret;exact ⟨Zan (ZbV d (by rw [←f.o];exact Zdr (by rw [←b.o];omega))).symm,rfl⟩
    ·obtain ⟨a,h⟩:=a
     (try have i:decide ((c:Int)<=90)=false:=(by simp;omega))
     go_wp2;go_ret;exact ⟨Zan (ZbV d (by rw [←f.o];exact Zdr (by rw [←b.o];omega))).symm,rfl⟩
    ·(try have z:decide ((c:Int)<=122)=false:=(by simp;omega))
     (try have i:decide ((c:Int)<=90)=false:=(by simp;omega))
     go_wp2;go_ret;exact ⟨Zan (ZbV d (by rw [←f.o];exact Zdr (by rw [←b.o];omega))).symm,rfl⟩
   ·have L:((k:Int) == 0)=false:=by rw [Yah];omega
    rcases (show (97<=(c:Int)/\(c:Int)<=122)\/122<(c:Int)\/(90<(c:Int)/\(c:Int)<97)\/(65<=(c:Int)/\(c:Int)<=90)\/(57<(c:Int)/\(c:Int)<65)\/(48<=(c:Int)/\(c:Int)<=57)\/(c:Int)<48 by omega) with a|a|a|a|a|a|a
    ·obtain ⟨a,h⟩:=a;go_wp2
     go_round
     case rel=>exact ⟨k+1,by omega,by go_num,by rw [Zdf,g.o,←f.o,Zee (by rw [←b.o];omega)];rfl⟩
     case measure=>simp [intOf];omega
    ·(try have z:decide ((c:Int)<=122)=false:=(by simp;omega))
     (try have i:decide ((c:Int)<=90)=false:=(by simp;omega))
     go_wp2;go_ret;exact ⟨Zan (ZbV d (by rw [←f.o];exact Zdr (by rw [←b.o];omega))).symm,rfl⟩
    ·obtain ⟨a,h⟩:=a
     (try have i:decide ((c:Int)<=90)=false:=(by simp;omega))
     go_wp2;go_ret;exact ⟨Zan (ZbV d (by rw [←f.o];exact Zdr (by rw [←b.o];omega))).symm,rfl⟩
    ·obtain ⟨a,h⟩:=a;go_wp2
     go_round
     case rel=>exact ⟨k+1,by omega,by go_num,by rw [Zdf,g.o,←f.o,Zee (by rw [←b.o];omega)];rfl⟩
     case measure=>simp [intOf];omega
    ·obtain ⟨a,h⟩:=a
     (try have i:decide ((c:Int)<=90)=false:=(by simp;omega))
     go_wp2;go_ret;exact ⟨Zan (ZbV d (by rw [←f.o];exact Zdr (by rw [←b.o];omega))).symm,rfl⟩
    ·obtain ⟨a,h⟩:=a;go_wp2
     go_round
     case rel=>exact ⟨k+1,by omega,by go_num,by rw [Zdf,g.o,←f.o,Zee (by rw [←b.o];omega)];rfl⟩
     case measure=>simp [intOf];omega
    ·(try have z:decide ((c:Int)<=122)=false:=(by simp;omega))
     (try have i:decide ((c:Int)<=90)=false:=(by simp;omega))
     go_wp2;go_ret;exact ⟨Zan (ZbV d (by rw [←f.o];exact Zdr (by rw [←b.o];omega))).symm,rfl⟩
  ·have m:k=l.length:=by have:=t.o;omega
   have q:ZbJ l=(decide (1<=n) && decide (n<=32)):=by unfold ZbJ;rw [←m,g.o,Yax,m,t.o]
   have j:=Hd q;clear q m;by_cases B:1<=n
   ·have D:(1:Int)<=n:=by omega
    by_cases E:n<=32
    ·have A:(n:Int)<=32:=by omega
     go_wp2;go_ret;exact ⟨Zan (by rw [j.o];simp [B,E]),rfl⟩
    ·have A:(32:Int)<n:=by omega
     go_wp2;go_ret;exact ⟨Zan (by rw [j.o];simp [E];omega),rfl⟩
   ·have D:(n:Int)<1:=by omega
    go_wp2;go_ret;exact ⟨Zan (by rw [j.o];simp [B]),rfl⟩
theorem Zch (l:List UInt8) (w:World) (f:l.length<=9223372036854775807) :
  Calls Tryz.prog 186 #[.string (S l)] w fun e w'=>e=.returned (.bool (Zal l))/\w=w':=by
 have a:=Hd (Zfs l w f);have k:((S l).size:Int)=(l.length:Int):=by rw [Zay]
 cases b:ZbJ l with
 | false=>
  rw [b] at a;have d:=Hd (show Zal l=false by unfold Zal;rw [b,YaF]);clear b;go_enter Tryz.func186,Tryz.ntmps186
  go_wp2_with fail
  refine a.o.mono ?_;rintro e w' ⟨rfl,rfl⟩;go_wp2;go_ret;exact ⟨Zan d.o.symm,rfl⟩
 | true=>
  rw [b] at a;have n:=Zby b;obtain ⟨x,h⟩:∃ x,x=l.getD 0 0:=⟨_,rfl⟩
  obtain ⟨c,g⟩:∃ c,c=x.toNat:=⟨_,rfl⟩
  have j:∀ i:0<(S l).size,((S l)[0]'i).toNat=c:=fun i=>by rw [g,h,S_at l 0 (by omega) i]
  have d:=Hd (show Zal l=decide (c<=90) by unfold Zal;rw [b,Yax,←h,←g]);have m:(1:Int)<=l.length:=by omega
  clear b h g;go_enter Tryz.func186,Tryz.ntmps186
  go_wp2_with fail
  refine a.o.mono ?_;rintro e w' ⟨rfl,rfl⟩;go_wp2;go_ret;exact ⟨Zan (by rw [d.o,decide_eq_decide];omega),rfl⟩
theorem Zdt (l:List UInt8) (w:World) (f:l.length<=9223372036854775807) :
  Calls Tryz.prog 187 #[.string (S l)] w fun e w'=>e=.returned (.bool (ZaC l))/\w=w':=by
 have a:=Hd (Zfs l w f);have k:((S l).size:Int)=(l.length:Int):=by rw [Zay]
 cases b:ZbJ l with
 | false=>
  rw [b] at a;have d:=Hd (show ZaC l=false by unfold ZaC;rw [b,YaF]);clear b;go_enter Tryz.func187,Tryz.ntmps187
  go_wp2_with fail
  refine a.o.mono ?_;rintro e w' ⟨rfl,rfl⟩;go_wp2;go_ret;exact ⟨Zan d.o.symm,rfl⟩
 | true=>
  rw [b] at a;have n:=Zby b;obtain ⟨x,h⟩:∃ x,x=l.getD 0 0:=⟨_,rfl⟩
  obtain ⟨c,g⟩:∃ c,c=x.toNat:=⟨_,rfl⟩
  have j:∀ i:0<(S l).size,((S l)[0]'i).toNat=c:=fun i=>by rw [g,h,S_at l 0 (by omega) i]
  have d:=Hd (show ZaC l=decide (97<=c) by unfold ZaC;rw [b,Yax,←h,←g]);have m:(1:Int)<=l.length:=by omega
  clear b h g;go_enter Tryz.func187,Tryz.ntmps187
  go_wp2_with fail
  refine a.o.mono ?_;rintro e w' ⟨rfl,rfl⟩;go_wp2;go_ret;exact ⟨Zan (by rw [d.o,decide_eq_decide];omega),rfl⟩
theorem Zb7 (l m:List UInt8):((S l).toList == m)=decide (l=m):=by
 rw [Zae];by_cases a:l=m
 ·subst a;simp
 ·simp [a]
theorem ZcW (l:List UInt8) (w:World) :
  Calls Tryz.prog 61 #[.string (S l)] w fun e w'=>e=.returned (.bool (ZaB l))/\w=w':=by
 have h:((S l).toList == [105,110,116])=decide (l=kInt):=Zb7 l kInt;have g:((S l).toList == [98,111,111,108])=decide (l=ZmE):=Zb7 l ZmE;have f:((S l).toList == [116,101,120,116])=decide (l=ZmF):=Zb7 l ZmF;by_cases a:l=kInt
 ·have b:=Hd (show ZaB l=true by unfold ZaB;simp [a]);rw [Yat a] at h;clear a g f;go_enter Tryz.func61,Tryz.ntmps61;go_wp2;go_ret;exact ⟨Zan b.o.symm,rfl⟩
 rw [Yaj a] at h;by_cases c:l=ZmE
 ·have b:=Hd (show ZaB l=true by unfold ZaB;simp [c]);rw [Yat c] at g;clear a c f;go_enter Tryz.func61,Tryz.ntmps61;go_wp2;go_ret;exact ⟨Zan b.o.symm,rfl⟩
 rw [Yaj c] at g;have b:=Hd (show ZaB l=decide (l=ZmF) by unfold ZaB;simp [a,c]);by_cases d:l=ZmF
 ·rw [Yat d] at f b;clear a c d;go_enter Tryz.func61,Tryz.ntmps61;go_wp2;go_ret;exact ⟨Zan b.o.symm,rfl⟩
 ·rw [Yaj d] at f b;clear a c d;go_enter Tryz.func61,Tryz.ntmps61;go_wp2;go_ret;exact ⟨Zan b.o.symm,rfl⟩
theorem ZdW (l:List UInt8) (w:World) (s:l.length<=9223372036854775807) :
  Calls Tryz.prog 194 #[.string (S l)] w fun e w'=>e=.returned (.int .i64 (ZaO l:Nat))/\w=w':=by
 obtain ⟨i,h⟩:∃ i,i=ZaO l:=⟨_,rfl⟩
 have F:i<=9223372036854775807:=by rw [h];have:=Zdl l;omega
 rw [←h];have E:=Hd h;clear h;go_enter Tryz.func194,Tryz.ntmps194;go_wp2
 go_loop [0,3] (fun D r=>∃ (a:List UInt8) (k:Nat),D=.string (S a)/\r=.int .i64 k/\k+ZaO a=i/\a.length<=9223372036854775807) (fun _ r=>i - (intOf r).toNat)
 case atStart=>exact ⟨l,0,rfl,rfl,by rw [Ybc,E.o],s⟩
 case round=>
  obtain ⟨a,k,rfl,rfl,z,J⟩:=hrel;have I:((S a).size:Int)=(a.length:Int):=by rw [Zay]
  have B:=Hd z;have H:k<=i:=by omega
  clear z;cases c:Zbk a with
  | true=>
   have u:=Zda c;have G:=Zcr c;have hcut:=ZeQ a (a.length - 2);have b:a.drop (a.length - 2)=[91,93]:=by
    unfold Zbk at c;simp at c
    exact c.2
   rw [b] at hcut;have y:=ZfG a (a.length - 2);have j:k+1+ZaO (a.take (a.length - 2))=i:=by have:=B.o;omega
   have n:=Hd j;have d:k+1<=i:=by omega
   obtain ⟨m,g⟩:∃ m,m=a.length - 2:=⟨_,rfl⟩
   rw [←g] at hcut y n;have x:(a.length:Int) - 2=(m:Int):=by omega
   have q:(2:Int)<=(a.length:Int):=by omega
   have t:(0:Int)<=m:=by omega
   have A:(m:Int)<=(a.length:Int):=by omega
   have p:(a.take m).length<=9223372036854775807:=by rw [Yay];omega
   have C:((S [91,93]).toList == [91,93])=true:=by rw [Zae];rfl
   have v:=Hd p;clear G b c j g p;generalize a.length=R at *;go_wp2
   go_round
   case rel=>exact ⟨a.take m,k+1,rfl,by go_num,n.o,v.o⟩
   case measure=>simp [intOf];omega
  | false=>
   have d:k=i:=by have:=B.o;rw [ZcC c] at this;omega
   by_cases u:2<=a.length
   ·have hcut:=ZeQ a (a.length - 2);have b:a.drop (a.length - 2) ≠ [91,93]:=by
     unfold Zbk at c;simp at c
     exact c u
    obtain ⟨m,g⟩:∃ m,m=a.length - 2:=⟨_,rfl⟩
    rw [←g] at hcut b;have x:(a.length:Int) - 2=(m:Int):=by omega
    have q:(2:Int)<=(a.length:Int):=by omega
    have t:(0:Int)<=m:=by omega
    have A:(m:Int)<=(a.length:Int):=by omega
    have C:((S (a.drop m)).toList == [91,93])=false:=by rw [Zae,Yah];exact b
    have f:=Hd d;clear b c g d;generalize a.length=R at *;go_wp2;go_ret;exact ⟨ZgL (by rw [f.o]),rfl⟩
   ·have q:(a.length:Int)<2:=by omega
    have f:=Hd d;clear c d;go_wp2;go_ret;exact ⟨ZgL (by rw [f.o]),rfl⟩
theorem ZbH (l:List UInt8) (w:World) (g:l.length<=9223372036854775807) :
  Calls Tryz.prog 127 #[.string (S l)] w fun e w'=>e=.returned (.bool (Zaj l))/\w=w':=by
 have h:=Hd (ZdW l w g);have q:((S l).size:Int)=(l.length:Int):=by rw [Zay]
 have u:=Zdl l;have f:=ZfG l (l.length - 2 * ZaO l);have d:(Zbe l).length<=9223372036854775807:=by rw [ZcQ];omega
 have c:=Hd (ZcW (Zbe l));have p:=Hd (fun w=>Zch (Zbe l) w d);have a:=Hd (show Zaj l=(decide (ZaO l<=3) && (ZaB (Zbe l) || Zal (Zbe l))) from rfl);rw [show l.take (l.length - 2 * ZaO l)=Zbe l from rfl] at f;clear d;generalize ZaO l=j at *;obtain ⟨m,n⟩:∃ m,m=l.length - 2 * j:=⟨_,rfl⟩
 rw [←n] at f;have t:(l.length:Int) - 2 * (j:Int)=(m:Int):=by omega
 have r:(0:Int)<=m:=by omega
 have s:(m:Int)<=(l.length:Int):=by omega
 clear n;by_cases k:j<=3
 ·have i:(j:Int)<=3:=by omega
  rw [Yat k,Yax] at a;cases b:ZaB (Zbe l) with
  | true=>
   rw [b] at c;rw [b,Yco] at a;clear b;go_enter Tryz.func127,Tryz.ntmps127
   go_wp2_with fail
   refine h.o.mono ?_;rintro e w' ⟨rfl,rfl⟩
   go_wp2_with fail
   refine (c.o w).mono ?_;rintro e w' ⟨rfl,rfl⟩;go_wp2;go_ret;exact ⟨Zan a.o.symm,rfl⟩
  | false=>
   rw [b] at c;rw [b,YaS] at a;clear b;go_enter Tryz.func127,Tryz.ntmps127
   go_wp2_with fail
   refine h.o.mono ?_;rintro e w' ⟨rfl,rfl⟩
   go_wp2_with fail
   refine (c.o w).mono ?_;rintro e w' ⟨rfl,rfl⟩
   go_wp2_with fail
   refine (p.o w).mono ?_;rintro e w' ⟨rfl,rfl⟩;go_wp2;go_ret;exact ⟨Zan a.o.symm,rfl⟩
 ·have i:(3:Int)<(j:Int):=by omega
  rw [Yaj k,YaF] at a;go_enter Tryz.func127,Tryz.ntmps127
  go_wp2_with fail
  refine h.o.mono ?_;rintro e w' ⟨rfl,rfl⟩;go_wp2;go_ret;exact ⟨Zan a.o.symm,rfl⟩
theorem Zkc (l:List UInt8) (w:World) (f:l.length<=9223372036854775807) :
  Calls Tryz.prog 201 #[.string (S l),.string ⟨#[91,93]⟩] w fun e w'=>e=.returned (.bool (Zbk l))/\w=w':=by
 have g:((S l).size:Int)=(l.length:Int):=by rw [Zay]
 by_cases a:2<=l.length
 ·obtain ⟨m,c⟩:∃ m,m=l.length - 2:=⟨_,rfl⟩
  have hcut:=ZeQ l m;have j:(l.length:Int) - 2=(m:Int):=by omega
  have d:(2:Int)<=(l.length:Int):=by omega
  have h:(0:Int)<=m:=by omega
  have i:(m:Int)<=(l.length:Int):=by omega
  have b:=Hd (show Zbk l=((S (l.drop m)).toList == [91,93]) by rw [Zae,c];unfold Zbk;rw [Yat a,Yax,Ybk,YaO,beq_iff_eq]);clear c a;generalize l.length=L at *;go_enter Tryz.func201,Tryz.ntmps201;go_wp2;go_ret;exact ⟨Zan b.o.symm,rfl⟩
 ·have d:(l.length:Int)<2:=by omega
  have b:=Hd (show Zbk l=false by unfold Zbk;rw [Yaj a,YaF]);clear a;generalize l.length=L at *;go_enter Tryz.func201,Tryz.ntmps201;go_wp2;go_ret;exact ⟨Zan b.o.symm,rfl⟩
theorem Zfw (l:List UInt8) (w:World) (d:l.length<=9223372036854775807) (b:Zbk l=true) :
  Calls Tryz.prog 145 #[.string (S l),.string ⟨#[91,93]⟩] w fun e w'=>e=.returned (.string (S (l.take (l.length - 2))))/\w=w':=by
 have g:((S l).size:Int)=(l.length:Int):=by rw [Zay]
 have f:=Zda b;obtain ⟨m,c⟩:∃ m,m=l.length - 2:=⟨_,rfl⟩
 have hcut:=ZeQ l m;have h:=ZfG l m;have k:(l.length:Int) - 2=(m:Int):=by omega
 have n:(2:Int)<=(l.length:Int):=by omega
 have i:(0:Int)<=m:=by omega
 have j:(m:Int)<=(l.length:Int):=by omega
 have a:l.drop m=[91,93]:=by
  unfold Zbk at b;simp at b
  rw [c];exact b.2
 rw [a] at hcut;have p:((S [91,93]).toList == [91,93])=true:=by rw [Zae];rfl
 rw [←c];clear c f b a;generalize l.length=L at *;go_enter Tryz.func145,Tryz.ntmps145;go_wp2;go_ret;exact ⟨rfl,rfl⟩
theorem ZqX:(Tryz.prog.info? 5).map (fun i=>(i.zero,i.size,i.bytes))=some (some (.int .u8 0),1,1):=by kernel_rfl
theorem ZaF (s:ByteArray) (w:World) (B:s.size<=281474976710656) :
  Calls Tryz.prog 63 #[.string s] w fun e w'=>e=.returned (.string s)/\Below w.heap.size w w':=by
 by_cases r:s.size=0
 ·have A:s=⟨#[]⟩:=by
   apply ByteArray.ext
   exact Array.eq_empty_of_size_eq_zero r
  subst A;go_enter Tryz.func63,Tryz.ntmps63;go_wp2;go_ret;exact ⟨rfl,Yab _ _⟩
 ·obtain ⟨u,j,q,b,y⟩:=info_parts ZqX;have d:(Tryz.prog.info? 5).map (·.size)=some 1:=by rw [j];simp [b]
  have m:Tryz.prog.cellsOf 5=1:=by simp [Program.cellsOf,j,b]
  obtain ⟨a,i⟩:∃ a,a=madeCells (Value.int .u8 0).cells (((s.size:Nat):Int).toNat * u.size):=⟨_,rfl⟩
  have G:a.size=s.size:=by rw [i,size_madeCells,b];simp
  have F:∀ W:World,(Instr.makeSlice 169 (.int .i64 (s.size:Int)) (.int .i64 (s.size:Int))).run Tryz.prog W=.ok (.slice (some ⟨W.heap.size,0,none⟩) s.size s.size) (W.alloc (.cells a 5)):=fun W=>by
   have D:=run_make (P:=Tryz.prog) W 169 5 u (.int .u8 0) Tryz.underlying169 j q .i64 .i64 (s.size:Int) (s.size:Int) (by omega) (by omega) (by rw [y];omega) (by omega);rw [←i] at D
   simpa using D
  clear i;have z:=Lib.run_copy_row_string (P:=Tryz.prog) (w.alloc (.cells a 5)) 169 9 3 5 w.heap.size 0 s.size s.size s a 5 Tryz.underlying169 d (heap_alloc_new w _) (Yac _) (by omega);obtain ⟨c,h⟩:∃ c,c=(a.toList.take 0++Lib.byteCells s.data.toList++a.toList.drop (0+s.size)).toArray:=⟨_,rfl⟩
  rw [←h] at z;have g:c.toList=Lib.byteCells s.data.toList:=by
   rw [h,List.toList_toArray,YbM,Ybm,List.drop_of_length_le (by rw [Ybj];omega),Ya2]
  have E:c.size=s.size:=by rw [←Ybj,g,Lib.byteCells_length,←Lib.size_eq]
  have f:((w.alloc (.cells a 5)).setRow w.heap.size c).heap[w.heap.size]? = some (.cells c 5 (0,0)):=setRow_heap _ _ a _ 5 (0,0) (heap_alloc_new w _);have n:s.data.toList ≠ []:=fun e=>r (by rw [Lib.size_eq,e];rfl)
  have t:=Lib.run_unsafeString_row (P:=Tryz.prog) ((w.alloc (.cells a 5)).setRow w.heap.size c) 170 3 9 5 Tryz.underlying170 m w.heap.size c.size (by unfold World.shape?;rw [f]) s.data.toList n (by rw [←Lib.size_eq];omega) (by rw [←Lib.size_eq];omega)
   (fun H x C=>Lib.cells_of_row f c.size H _ (by rw [Yaw (by rw [Ybj];exact Yac _),g];simp [Lib.byteCells,C]))
  rw [←Lib.size_eq] at t;clear h;go_enter Tryz.func63,Tryz.ntmps63;go_wp2;go_ret;have l:Below w.heap.size w (w.alloc (.cells a 5)):=(Yab _ w).alloc (Yac _) _;have v:Below w.heap.size (w.alloc (.cells a 5)) ((w.alloc (.cells a 5)).setRow w.heap.size c):=⟨rfl,rfl,rfl,by simp,fun k I=>setRow_other _ _ _ _ (by omega)⟩;exact ⟨rfl,Lib.below_freeze (l.trans v) (p:=⟨w.heap.size,0,none⟩) (Yac _) _⟩
theorem Zmm (l:List UInt8):Lib.indexByte l 46=if ZaP l<l.length then (ZaP l:Int) else -1:=by
 unfold ZaP;induction l with
 | nil=>rfl
 | cons b l d=>
  rw [Lib.indexByte,List.findIdx_cons,d];cases h:(b == 46) with
  | true=>simp
  | false=>
   have g:List.findIdx (fun c=>c == 46) l<=l.length:=List.findIdx_le_length;simp only [YbZ,if_false,cond_false,YaI];by_cases f:List.findIdx (fun c=>c == 46) l<l.length
   ·have a:List.findIdx (fun c=>c == 46) l+1<l.length+1:=by omega
    rw [YaC f,YaC a,Yas (by simp)];omega
   ·have a:¬ List.findIdx (fun c=>c == 46) l+1<l.length+1:=by omega
    rw [Yas f,Yas a];rfl
theorem Zd9 (s:ByteArray) (c:Int) (w:World) :
  Calls Tryz.prog 268 #[.string s,.int .u8 c] w fun e w'=>e=.returned (.int .i64 (Lib.indexByte s.data.toList c.toNat.toUInt8))/\w=w':=by
 go_enter Tryz.func268,Tryz.ntmps268;go_wp2;rw [run_callFunc_extern Tryz.func275 (by kernel_rfl) (by kernel_rfl) (by kernel_rfl) (e:=Extern.BytealgIndexByte.indexByte) (by kernel_rfl),Lib.run_indexByteString];simp only [Result.andThen];rw [Oper.upon_value];go_wp2;go_ret;exact ⟨rfl,rfl⟩
theorem Zmn (s:ByteArray) (w:World) :
  Calls Tryz.prog 260 #[.string s,.string ⟨#[46]⟩] w fun e w'=>e=.returned (.int .i64 (Lib.indexByte s.data.toList 46))/\w=w':=by
 go_enter Tryz.func260,Tryz.ntmps260
 go_wp2_with (go_at_call 268;refine (Zd9 _ _ _).mono ?_;rintro e w' ⟨rfl,rfl⟩)
 ·have a:([46] == s.toList)=true:=by assumption
  go_ret;refine ⟨?_,rfl⟩;have e:s.data.toList=[46]:=by rw [←Lib.toList_data];exact (beq_iff_eq.1 a).symm
  rw [e];simp [Lib.indexByte]
 ·go_ret;exact ⟨rfl,rfl⟩
def Zqj (l:List UInt8) (w:World) (e:Ending) (w':World):Prop:=
 (∃ a,w'=w.drewN a)/\((ZaP l<l.length/\e=.returned (.tuple #[.string (S (l.take (ZaP l))),.string (S (l.drop (ZaP l+1))),.bool true]))\/
  (l.length<=ZaP l/\e=.returned (.tuple #[.string (S l),.string ⟨#[]⟩,.bool false])))
theorem Zin (l:List UInt8) (w:World) (i:l.length<=9223372036854775807) :
  Calls Tryz.prog 251 #[.string (S l),.string ⟨#[46]⟩] w (Zqj l w):=by
 have a:=Zmn (S l) w;rw [Zje,Zmm] at a;by_cases f:ZaP l<l.length
 ·rw [YaC f] at a;have b:=Hd a;have m:((S l).size:Int)=(l.length:Int):=by rw [Zay]
  have d:=Hd f;obtain ⟨k,c⟩:∃ k,k=ZaP l:=⟨_,rfl⟩
  rw [←c] at f b;have j:=Hd c;have h:=ZfG l k;have g:=ZeQ l (k+1);have r:(0:Int)<=(k:Int)+1:=by omega
  have n:(k:Int)+1<=(l.length:Int):=by omega
  have s:(0:Int)<=(k:Int):=by omega
  have q:(k:Int)<=(l.length:Int):=by omega
  have w2:((k:Int)+1).toNat=k+1:=by omega
  have p:IntKind.i64.wrap ((k:Int)+1)=(k:Int)+1:=IntWalk.i64_in _ (by omega);clear a c f;go_enter Tryz.func251,Tryz.ntmps251
  go_wp2_with (go_at_call 260;refine b.o.mono ?_;rintro e w' ⟨rfl,rfl⟩)
  go_quiet (fail)
  go_wp2
  go_ret3;exact ⟨⟨nq,rfl⟩,.inl ⟨d.o,by rw [←j.o];rfl⟩⟩
 ·rw [Yas f] at a;have b:=Hd a;have d:=Hd (show l.length<=ZaP l by omega);clear a f;go_enter Tryz.func251,Tryz.ntmps251
  go_wp2_with (go_at_call 260;refine b.o.mono ?_;rintro e w' ⟨rfl,rfl⟩)
  go_ret3;exact ⟨⟨0,rfl⟩,.inr ⟨d.o,rfl⟩⟩
theorem ZpG (l:List UInt8) (w:World) (b:l.length<=9223372036854775807) :
  Calls Tryz.prog 232 #[.string (S l),.string ⟨#[46]⟩] w (Zqj l w):=by
 go_enter Tryz.func232,Tryz.ntmps232
 go_wp2_with fail
 refine (Zin l w b).mono ?_;rintro e w' ⟨f,a⟩;have d:=Hd f;clear f;rcases a with ⟨a,rfl⟩|⟨a,rfl⟩
 ·have c:=Hd a;clear a;go_wp2
  go_ret3;exact ⟨d.o,.inl ⟨c.o,rfl⟩⟩
 ·have c:=Hd a;clear a;go_wp2
  go_ret3;exact ⟨d.o,.inr ⟨c.o,rfl⟩⟩
def okP (p:Int->Bool) (i:Nat) (c:UInt8):Bool:=(decide (i ≠ 0) || p c.toNat) && (Zb6 c || Zdv c)
def Zfn (p:Int->Bool) (l:List UInt8) (k:Nat):Bool:=(List.range k).all fun i=>okP p i (l.getD i 0)
def ZcU (p:Int->Bool) (l:List UInt8):Bool:=Zfn p l l.length && (decide (1<=l.length) && decide (l.length<=32))
theorem Zcu (p:Int->Bool) (l:List UInt8) (k:Nat):Zfn p l (k+1)=(Zfn p l k && okP p k (l.getD k 0)):=by
 unfold Zfn;rw [YbR,Ycp];simp
theorem Zkz (p:Int->Bool) (l:List UInt8):Zfn p l 0=true:=by simp [Zfn]
theorem Za7 {p:Int->Bool} {l:List UInt8} {k:Nat} (b:k<l.length) (c:okP p k (l.getD k 0)=false):ZcU p l=false:=by
 have a:Zfn p l l.length=false:=by
  unfold Zfn;rw [Yb2];exact ⟨k,by simpa using b,by rw [c];decide⟩
 unfold ZcU;rw [a,YaF]
theorem ZiM {p:Int->Bool} {l:List UInt8} (a:32<l.length):ZcU p l=false:=by
 unfold ZcU;rw [Yaj (show ¬ l.length<=32 by omega),Ycl,Ycl]
theorem ZiN (p:Int->Bool):ZcU p []=false:=by unfold ZcU;simp
def upI (a:Int):Bool:=decide (65<=a) && decide (a<=90)
def loI (a:Int):Bool:=decide (97<=a) && decide (a<=122)
def leI (a:Int):Bool:=upI a || loI a
theorem Zfl (p:Int->Bool) (a:UInt8->Bool) (l:List UInt8) (g:∀ c:UInt8,(p c.toNat && (Zb6 c || Zdv c))=(Zb6 c && a c)):ZcU p l=(ZbJ l && a (l.getD 0 0)):=by
 unfold ZcU ZbJ;cases l with
 | nil=>simp
 | cons b t=>
  have d:Zfn p (b :: t) (b :: t).length=(okTo (b :: t) (b :: t).length && a b):=by
   unfold Zfn okTo;rw [YaI,List.range_succ_eq_map,Ycd,Ycd];have h:okP p 0 ((b :: t).getD 0 0)=(okAt 0 ((b :: t).getD 0 0) && a b):=by
    show okP p 0 b=(okAt 0 b && a b)
    unfold okP okAt;have:=g b;simp only [ne_eq,not_true_eq_false,decide_false,YaS,YaF,Bool.or_false];exact this
   have j:((List.range t.length).map Nat.succ).all (fun i=>okP p i ((b :: t).getD i 0))=((List.range t.length).map Nat.succ).all (fun i=>okAt i ((b :: t).getD i 0)):=by
    rw [List.all_map,List.all_map];exact Ya5 (fun f=>(List.range t.length).all f) (funext fun i=>by simp [okP,okAt])
   rw [h,j,YaR,YaR]
   congr 1
   exact Bool.and_comm _ _
  rw [d];show _=(_ && a b)
  cases okTo (b :: t) (b :: t).length <;> cases a b <;> simp
theorem ZmZ (l:List UInt8):ZcU upI l=Zal l:=by
 unfold Zal;rw [Zfl upI (fun c=>decide (c.toNat<=90)) l (fun c=>by
  unfold upI Zb6 Zdv;rw [Ybk];simp only [Yar,YaX,YaO];omega)]
theorem ZmY (l:List UInt8):ZcU loI l=ZaC l:=by
 unfold ZaC;rw [Zfl loI (fun c=>decide (97<=c.toNat)) l (fun c=>by
  unfold loI Zb6 Zdv;rw [Ybk];simp only [Yar,YaX,YaO];omega)]
theorem ZmX (l:List UInt8):ZcU leI l=ZbJ l:=by
 rw [Zfl leI (fun _=>true) l (fun c=>by
  unfold leI upI loI Zb6 Zdv;rw [Ybk];simp only [Yar,YaX,YaO,and_true];omega),Bool.and_true]
theorem Zqb (l:List UInt8) (k:Nat) (c:k<l.length) (b:k<(S l).size) :
  ((l.getD k 0).toNat<128/\Utf8.decode (S l) k=((l.getD k 0).toNat,1))\/
  (128<=(l.getD k 0).toNat/\128<=(Utf8.decode (S l) k).1/\(Utf8.decode (S l) k).1<=2147483647/\1<=(Utf8.decode (S l) k).2):=by
 have e:=S_at l k c b;by_cases a:(l.getD k 0).toNat<128
 ·exact .inl ⟨a,by rw [decode_ascii (S l) k b (by rw [e];exact a),e]⟩
 ·have:=decode_high (S l) k b (by rw [e];omega);exact .inr ⟨by omega,this.1,decode_le (S l) k,this.2⟩
theorem Zh4 (b:Int) (w:World):Calls Tryz.prog 206 #[.int .i32 b] w fun e w'=>e=.returned (.bool (upI b))/\w=w':=by
 unfold upI;by_cases a:65<=b
 ·rw [Yat a,Yax];go_enter Tryz.func206,Tryz.ntmps206;go_wp2;go_ret;exact ⟨rfl,rfl⟩
 ·rw [Yaj a,YaF];have c:b<65:=by omega
  go_enter Tryz.func206,Tryz.ntmps206;go_wp2;go_ret;exact ⟨rfl,rfl⟩
theorem ZhG (b:Int) (w:World):Calls Tryz.prog 233 #[.int .i32 b] w fun e w'=>e=.returned (.bool (loI b))/\w=w':=by
 unfold loI;by_cases a:97<=b
 ·rw [Yat a,Yax];go_enter Tryz.func233,Tryz.ntmps233;go_wp2;go_ret;exact ⟨rfl,rfl⟩
 ·rw [Yaj a,YaF];have c:b<97:=by omega
  go_enter Tryz.func233,Tryz.ntmps233;go_wp2;go_ret;exact ⟨rfl,rfl⟩
theorem Zkm (c:Int) (w:World):Calls Tryz.prog 238 #[.int .i32 c] w fun e w'=>e=.returned (.bool (leI c))/\w=w':=by
 have b:=Hd (Zh4 c w);have d:=Hd (ZhG c w);unfold leI;cases a:upI c with
 | true=>
  rw [a] at b;rw [Yco];clear a;go_enter Tryz.func238,Tryz.ntmps238
  go_wp2_with fail
  refine b.o.mono ?_;rintro e w' ⟨rfl,rfl⟩;go_wp2;go_ret;exact ⟨rfl,rfl⟩
 | false=>
  rw [a] at b;rw [YaS];clear a;go_enter Tryz.func238,Tryz.ntmps238
  go_wp2_with fail
  refine b.o.mono ?_;rintro e w' ⟨rfl,rfl⟩
  go_wp2_with fail
  refine d.o.mono ?_;rintro e w' ⟨rfl,rfl⟩;go_wp2;go_ret;exact ⟨rfl,rfl⟩
