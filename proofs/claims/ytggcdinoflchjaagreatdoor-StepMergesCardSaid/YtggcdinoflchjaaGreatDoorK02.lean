/- laws -/
import Derived.Test.YtggcdinoflchjaaGreatDoorK01
import Derived.Test.YtggcdinoflchjaaGreatDoorProg
import Derived.IntWalk
import Derived.Lib.Bytealg
import Derived.Lib.BufferWrite
import Derived.Lib.UnsafeStr
import Derived.Laws.MakeOwn
import Derived.Laws.Strings3
import Derived.Deep.QuietTactic
import Derived.BigQuiet
import Derived.Laws.RangeAny
set_option maxRecDepth 100000
set_option maxHeartbeats 16000000
namespace Go.Proofs.YtggcdinoflchjaaGreatDoor
open Go.RowKit
structure Fld where
 name:List UInt8
 kind:List UInt8
 tr:Bool
structure Cat where
 fr:Int
 till:Int
 at_:Int
 cls:List UInt8
abbrev strV (x:List UInt8):Value:=.string (S x)
abbrev fldV (f:Fld):Value:=.agg #[.string (S f.name),.string (S f.kind),.bool f.tr]
abbrev catV (c:Cat):Value:=.agg #[.int .i64 c.fr,.int .i64 c.till,.int .i64 c.at_,.string (S c.cls)]
abbrev StrR:Zaq (List UInt8):=Flat strV
abbrev FldR:Zaq Fld:=Flat fldV
abbrev CatR:Zaq Cat:=Flat catV
theorem StrR.st:Stays StrR:=Flat.stays _
theorem FldR.st:Stays FldR:=Flat.stays _
theorem CatR.st:Stays CatR:=Flat.stays _
theorem Zcb {α:Type} (p:α->Bool) (l:List α) (k:Nat) (x:α) (h:l[k]? = some x):(l.take (k+1)).all p=((l.take k).all p && p x):=by
 rw [YaI,h];simp
theorem Zai {α:Type} (p:α->Bool) (l:List α) (k:Nat) (x:α) (h:l[k]? = some x):(l.take (k+1)).any p=((l.take k).any p || p x):=by
 rw [YaI,h];simp
theorem ZcM {α:Type} (p:α->Bool) (l:List α):l.all p = !l.any (fun x=>!p x):=by
 induction l with
 | nil=>rfl
 | cons x l ih=>simp [ih]
def Zfv (l:List (List UInt8)) (k:Nat):Bool:=!(l.take k).any (fun y=>y == l.getD k [])
def ZbE (l:List (List UInt8)) (k:Nat):Bool:=(List.range k).all (Zfv l)
def ZbL (l:List (List UInt8)):Bool:=ZbE l l.length
theorem ZdB (l:List (List UInt8)):ZbE l 0=true:=by simp [ZbE]
theorem ZdA (l:List (List UInt8)) (k:Nat):ZbE l (k+1)=(ZbE l k && Zfv l k):=by
 unfold ZbE;rw [YbV,Ycr];simp
theorem Zfo (l:List (List UInt8)) (k m:Nat) (hkm:k<=m) (h:ZbE l k=false):ZbE l m=false:=by
 unfold ZbE at h ⊢;rw [YbZ] at h ⊢;obtain ⟨i,hi,hn⟩:=h;exact ⟨i,by simp at hi ⊢;omega,hn⟩
def Box (w:World) (B:Nat) (cs:Array Value) (t:TypeId):Prop:=w.heap[B]? = some (.cells cs t (0,0))
theorem Box.new (w:World) (cs:Array Value) (t:TypeId):Box (w.alloc (.cells cs t)) w.heap.size cs t:=heap_alloc_new w _
theorem Box.cell {w:World} {B:Nat} {cs:Array Value} {t:TypeId} (h:Box w B cs t) (j:Nat) {v:Value} (hj:cs[j]? = some v):w.cell? ⟨B,j,none⟩=some v:=by
 unfold Box at h;unfold World.cell?;rw [h];exact hj
theorem Box.keep {S:Nat->Prop} {w w':World} {B:Nat} {cs:Array Value} {t:TypeId} (h:Box w B cs t) (ho:Only S w w') (hn:¬ S B):Box w' B cs t:=ho.heap h hn
theorem Box.below {w w':World} {B:Nat} {cs:Array Value} {t:TypeId} (h:Box w B cs t) (hb:Below w.heap.size w w'):Box w' B cs t:=h.keep (Yaf (S:=fun _=>False) hb) id
theorem Box.lt {w:World} {B:Nat} {cs:Array Value} {t:TypeId} (h:Box w B cs t):B<w.heap.size:=lt_of_block h
end Go.Proofs.YtggcdinoflchjaaGreatDoor
namespace Go.Proofs.YtggcdinoflchjaaGreatDoor

def Zcl (c:UInt8):Bool:=(decide (97<=c.toNat) && decide (c.toNat<=122)) || (decide (65<=c.toNat) && decide (c.toNat<=90))
def ZdJ (c:UInt8):Bool:=decide (48<=c.toNat) && decide (c.toNat<=57)
def okAt (i:Nat) (c:UInt8):Bool:=Zcl c || (decide (i ≠ 0) && ZdJ c)
def okTo (l:List UInt8) (k:Nat):Bool:=(List.range k).all fun i=>okAt i (l.getD i 0)
def ZbN (l:List UInt8):Bool:=okTo l l.length && (decide (1<=l.length) && decide (l.length<=32))
def Zak (l:List UInt8):Bool:=ZbN l && decide ((l.getD 0 0).toNat<=90)
def ZaF (l:List UInt8):Bool:=ZbN l && decide (97<=(l.getD 0 0).toNat)
def kInt:List UInt8:=[105,110,116]
def Znc:List UInt8:=[98,111,111,108]
def Znd:List UInt8:=[116,101,120,116]
def Zas (l:List UInt8):Bool:=decide (l=kInt) || decide (l=Znc) || decide (l=Znd)
def Zbt (l:List UInt8):Bool:=decide (2<=l.length) && decide (l.drop (l.length - 2)=[91,93])
def ZaV (l:List UInt8):Nat:=if h:Zbt l=true then ZaV (l.take (l.length - 2))+1 else 0
 termination_by l.length
 decreasing_by
  have:2<=l.length:=by
   unfold Zbt at h;simp at h
   exact h.1
  rw [Yaz];omega
theorem Zdl {l:List UInt8} (h:Zbt l=true):2<=l.length:=by
 unfold Zbt at h;simp at h
 exact h.1
theorem ZcE {l:List UInt8} (h:Zbt l=true):ZaV l=ZaV (l.take (l.length - 2))+1:=by rw [ZaV,dif_pos h]
theorem ZcQ {l:List UInt8} (h:Zbt l=false):ZaV l=0:=by rw [ZaV,dif_neg (by rw [h];decide)]
theorem Zdz (l:List UInt8):2 * ZaV l<=l.length:=by
 cases h:Zbt l with
 | true=>
  have h2:=Zdl h;have ih:=Zdz (l.take (l.length - 2));rw [Yaz] at ih;rw [ZcE h];omega
 | false=>rw [ZcQ h];omega
 termination_by l.length
 decreasing_by rw [Yaz];omega
def Zbo (l:List UInt8):List UInt8:=l.take (l.length - 2 * ZaV l)
theorem Zc3 (l:List UInt8):(Zbo l).length=l.length - 2 * ZaV l:=by unfold Zbo;rw [Yaz];omega
def Zkh (l:List UInt8):Bool:=Zas l || Zak l
def Zaj (l:List UInt8):Bool:=decide (ZaV l<=3) && Zkh (Zbo l)
def Zdc (l:List UInt8):List UInt8:=if Zaj l=true/\1<=ZaV l then l.take (l.length - 2) else []
def ZaW (l:List UInt8):Nat:=l.findIdx (fun c=>c == 46)
def Za3 (l:List UInt8):Bool:=decide (ZaW l<l.length) && (Zak (l.take (ZaW l)) && ZaF (l.drop (ZaW l+1)))

theorem Zdq (l:List UInt8) (k:Nat):okTo l (k+1)=(okTo l k && okAt k (l.getD k 0)):=by
 unfold okTo;rw [YbV,Ycr];simp
theorem ZnF (l:List UInt8):okTo l 0=true:=by simp [okTo]
theorem ZqC (l:List UInt8) (k m:Nat) (hkm:k<=m) (h:okTo l k=false):okTo l m=false:=by
 unfold okTo at h ⊢;rw [YbZ] at h ⊢;obtain ⟨i,hi,hn⟩:=h;exact ⟨i,by simp at hi ⊢;omega,hn⟩
theorem ZbH {l:List UInt8} (h:ZbN l=true):1<=l.length/\l.length<=32:=by
 unfold ZbN at h;simp at h
 exact h.2
theorem Zg4 {l:List UInt8} (h:ZbN l=true) (i:Nat) (hi:i<l.length):okAt i (l.getD i 0)=true:=by
 unfold ZbN okTo at h;simp only [Yat,YaH] at h;exact h.1 i (by simpa using hi)
theorem ZqB (i:Nat) (c:UInt8) (h:okAt i c=true):c ≠ 91/\c ≠ 93/\c ≠ 46:=by
 refine ⟨?_,?_,?_⟩ <;> (rintro rfl;revert h;unfold okAt;cases i <;> simp <;> decide)
theorem Zdp {l:List UInt8} (h:ZbN l=true):Zbt l=false:=by
 cases he:Zbt l with
 | false=>rfl
 | true=>
  exfalso
  have h2:=Zdl he;unfold Zbt at he;simp at he
  have hd:(l.drop (l.length - 2))[0]? = some 91:=by rw [he.2];rfl
  rw [YbG,Ycf] at hd;have hk:l.getD (l.length - 2) 0=91:=by simp [List.getD,hd]
  exact (ZqB _ _ (Zg4 h (l.length - 2) (by omega))).1 hk
theorem ZdF {l:List UInt8} (h:Zas l=true):ZbN l=true:=by
 unfold Zas at h;simp at h
 rcases h with (h|h)|h <;> subst h <;> decide
theorem Ze3 {l:List UInt8} (h:Zas l=true):Zak l=false:=by
 unfold Zas at h;simp at h
 rcases h with (h|h)|h <;> subst h <;> decide
theorem Zbf {l:List UInt8} (h:Zak l=true):ZbN l=true:=by unfold Zak at h;simp at h;exact h.1
theorem Zd4 {l:List UInt8} (h:Zkh l=true):ZbN l=true:=by
 unfold Zkh at h;simp at h
 rcases h with h|h
 ·exact ZdF h
 ·exact Zbf h
def ofL (l:List UInt8):List UInt8:=l++[91,93]
theorem ZeO (l:List UInt8):(ofL l).length=l.length+2:=by simp [ofL]
theorem Zpj (l:List UInt8):Zbt (ofL l)=true:=by
 unfold Zbt;rw [ZeO];simp [ofL]
theorem Zpk (l:List UInt8):(ofL l).take ((ofL l).length - 2)=l:=by
 rw [ZeO];simp [ofL]
theorem Zg5 (l:List UInt8):ZaV (ofL l)=ZaV l+1:=by rw [ZcE (Zpj l),Zpk]
theorem Zpi (l:List UInt8):Zbo (ofL l)=Zbo l:=by
 have h:=Zdz l;unfold Zbo;rw [Zg5,ZeO];unfold ofL;rw [YbC (by omega)]
 congr 1
 omega
theorem ZmC {l:List UInt8} (h:Zbt l=true):ofL (l.take (l.length - 2))=l:=by
 unfold Zbt at h;simp at h
 unfold ofL;rw [←h.2];exact Ya2 _ _
theorem ZhD {l:List UInt8} (h:1<=ZaV l):Zbt l=true:=by
 cases he:Zbt l with
 | true=>rfl
 | false=>rw [ZcQ he] at h;omega
theorem Zid (l:List UInt8):Zaj (ofL l)=(Zaj l && decide (ZaV l<=2)):=by
 unfold Zaj;rw [Zg5,Zpi];by_cases h:ZaV l<=2
 ·have h3:ZaV l<=3:=by omega
  simp [h,h3]
 ·simp [h]
theorem Zky {l:List UInt8} (h:Zaj l=true) (hd:1<=ZaV l):Zaj (Zdc l)=true/\ZaV (Zdc l)=ZaV l - 1/\ofL (Zdc l)=l:=by
 have he:=ZhD hd;have e1:Zdc l=l.take (l.length - 2):=by unfold Zdc;rw [YaA ⟨h,hd⟩]
 have e2:ofL (Zdc l)=l:=by rw [e1];exact ZmC he
 have e3:=Zid (Zdc l);have e4:=Zg5 (Zdc l);rw [e2] at e3 e4;rw [h] at e3;have e5:Zaj (Zdc l)=true:=by
  cases hr:Zaj (Zdc l) with
  | true=>rfl
  | false=>rw [hr] at e3;simp at e3
 exact ⟨e5,by omega,e2⟩
theorem ZeR {l:List UInt8} (h:Zaj l=true):ZbN (Zbo l)=true:=by
 unfold Zaj at h;simp at h
 exact Zd4 h.2
theorem ZdL {l:List UInt8} (h:ZbN l=true):ZaV l=0:=ZcQ (Zdp h)
end Go.Proofs.YtggcdinoflchjaaGreatDoor
namespace Go.Proofs.YtggcdinoflchjaaGreatDoor
open Go.RowKit
theorem Zao {a b:Bool} (h:a=b):Ending.returned (.bool a)=.returned (.bool b):=by rw [h]
theorem Zev {k:Nat} {c:UInt8} (h:(97<=c.toNat/\c.toNat<=122)\/(65<=c.toNat/\c.toNat<=90)\/(k ≠ 0/\48<=c.toNat/\c.toNat<=57)):okAt k c=true:=by
 unfold okAt Zcl ZdJ;simp only [YaS,Yat,YaO];omega
theorem ZdD {k:Nat} {c:UInt8} (h:¬ ((97<=c.toNat/\c.toNat<=122)\/(65<=c.toNat/\c.toNat<=90)\/(k ≠ 0/\48<=c.toNat/\c.toNat<=57))):okAt k c=false:=by
 cases hk:okAt k c with
 | false=>rfl
 | true=>
  exfalso
  apply h
  unfold okAt Zcl ZdJ at hk;simp only [YaS,Yat,YaO] at hk;omega
theorem Zb9 {l:List UInt8} {k:Nat} (hk:k<l.length) (h:okAt k (l.getD k 0)=false):ZbN l=false:=by
 have h1:okTo l (k+1)=false:=by rw [Zdq,h,Ybv]
 unfold ZbN;rw [ZqC l (k+1) l.length hk h1,YaD]
theorem ZfV (l:List UInt8) (w:World) (hlim:l.length<=9223372036854775807) :
  Calls Tryz.prog 229 #[.string (S l)] w fun e w'=>e=.returned (.bool (ZbN l))/\w=w':=by
 have hsz:((S l).size:Int)=(l.length:Int):=by rw [ZaB]
 obtain ⟨n,hn⟩:∃ n,n=l.length:=⟨_,rfl⟩
 rw [←hn] at hsz;have HN:=Hd hn;have hn1:n<=9223372036854775807:=by omega
 clear hn hlim;go_enter Tryz.func229,Tryz.ntmps229;go_wp2
 go_loop [3] (fun v3=>∃ k:Nat,k<=n/\v3=.int .i64 k/\okTo l k=true) (fun v3=>n - (intOf v3).toNat)
 case atStart=>exact ⟨0,Yai _,rfl,ZnF l⟩
 case round=>
  obtain ⟨k,hk,rfl,hok⟩:=hrel;have HOK:=Hd hok;clear hok;by_cases hlt:k<n
  ·have hkl:k<l.length:=by have:=HN.o;omega
   obtain ⟨x,hx⟩:∃ x,x=l.getD k 0:=⟨_,rfl⟩
   obtain ⟨c,hc⟩:∃ c,c=x.toNat:=⟨_,rfl⟩
   have hget:∀ h:k<(S l).size,((S l)[k]'h).toNat=c:=fun h=>by rw [hc,hx,S_at l k hkl h]
   have HX:=Hd hx;have HCC:=Hd hc;have hc256:c<256:=by rw [hc];exact UInt8.toNat_lt _
   clear hx hc;by_cases hk0:k=0
   ·subst hk0;rcases (show (97<=(c:Int)/\(c:Int)<=122)\/122<(c:Int)\/(90<(c:Int)/\(c:Int)<97)\/(65<=(c:Int)/\(c:Int)<=90)\/(57<(c:Int)/\(c:Int)<65)\/(48<=(c:Int)/\(c:Int)<=57)\/(c:Int)<48 by omega) with h1|h1|h1|h1|h1|h1|h1
    ·obtain ⟨h1,h2⟩:=h1;go_wp2
     go_round
     case rel=>exact ⟨1,by omega,rfl,by rw [show 1=0+1 from rfl,Zdq,HOK.o,←HX.o,Zev (by rw [←HCC.o];omega)];rfl⟩
     case measure=>simp [intOf];omega
    ·(try have d1:decide ((c:Int)<=122)=false:=(by simp;omega))
     (try have d2:decide ((c:Int)<=90)=false:=(by simp;omega))
     go_wp2;go_ret;exact ⟨Zao (Zb9 hkl (by rw [←HX.o];exact ZdD (by rw [←HCC.o];omega))).symm,rfl⟩
    ·obtain ⟨h1,h2⟩:=h1
     (try have d2:decide ((c:Int)<=90)=false:=(by simp;omega))
     go_wp2;go_ret;exact ⟨Zao (Zb9 hkl (by rw [←HX.o];exact ZdD (by rw [←HCC.o];omega))).symm,rfl⟩
    ·obtain ⟨h1,h2⟩:=h1;go_wp2
     go_round
     case rel=>exact ⟨1,by omega,rfl,by rw [show 1=0+1 from rfl,Zdq,HOK.o,←HX.o,Zev (by rw [←HCC.o];omega)];rfl⟩
     case measure=>simp [intOf];omega
    ·obtain ⟨h1,h2⟩:=h1
     (try have d2:decide ((c:Int)<=90)=false:=(by simp;omega))
     go_wp2;go_ret;exact ⟨Zao (Zb9 hkl (by rw [←HX.o];exact ZdD (by rw [←HCC.o];omega))).symm,rfl⟩
    ·obtain ⟨h1,h2⟩:=h1
     (try have d2:decide ((c:Int)<=90)=false:=(by simp;omega))
     go_wp2;go_ret;exact ⟨Zao (Zb9 hkl (by rw [←HX.o];exact ZdD (by rw [←HCC.o];omega))).symm,rfl⟩
    ·(try have d1:decide ((c:Int)<=122)=false:=(by simp;omega))
     (try have d2:decide ((c:Int)<=90)=false:=(by simp;omega))
     go_wp2;go_ret;exact ⟨Zao (Zb9 hkl (by rw [←HX.o];exact ZdD (by rw [←HCC.o];omega))).symm,rfl⟩
   ·have hkb:((k:Int) == 0)=false:=by rw [Yah];omega
    rcases (show (97<=(c:Int)/\(c:Int)<=122)\/122<(c:Int)\/(90<(c:Int)/\(c:Int)<97)\/(65<=(c:Int)/\(c:Int)<=90)\/(57<(c:Int)/\(c:Int)<65)\/(48<=(c:Int)/\(c:Int)<=57)\/(c:Int)<48 by omega) with h1|h1|h1|h1|h1|h1|h1
    ·obtain ⟨h1,h2⟩:=h1;go_wp2
     go_round
     case rel=>exact ⟨k+1,by omega,by go_num,by rw [Zdq,HOK.o,←HX.o,Zev (by rw [←HCC.o];omega)];rfl⟩
     case measure=>simp [intOf];omega
    ·(try have d1:decide ((c:Int)<=122)=false:=(by simp;omega))
     (try have d2:decide ((c:Int)<=90)=false:=(by simp;omega))
     go_wp2;go_ret;exact ⟨Zao (Zb9 hkl (by rw [←HX.o];exact ZdD (by rw [←HCC.o];omega))).symm,rfl⟩
    ·obtain ⟨h1,h2⟩:=h1
     (try have d2:decide ((c:Int)<=90)=false:=(by simp;omega))
     go_wp2;go_ret;exact ⟨Zao (Zb9 hkl (by rw [←HX.o];exact ZdD (by rw [←HCC.o];omega))).symm,rfl⟩
    ·obtain ⟨h1,h2⟩:=h1;go_wp2
     go_round
     case rel=>exact ⟨k+1,by omega,by go_num,by rw [Zdq,HOK.o,←HX.o,Zev (by rw [←HCC.o];omega)];rfl⟩
     case measure=>simp [intOf];omega
    ·obtain ⟨h1,h2⟩:=h1
     (try have d2:decide ((c:Int)<=90)=false:=(by simp;omega))
     go_wp2;go_ret;exact ⟨Zao (Zb9 hkl (by rw [←HX.o];exact ZdD (by rw [←HCC.o];omega))).symm,rfl⟩
    ·obtain ⟨h1,h2⟩:=h1;go_wp2
     go_round
     case rel=>exact ⟨k+1,by omega,by go_num,by rw [Zdq,HOK.o,←HX.o,Zev (by rw [←HCC.o];omega)];rfl⟩
     case measure=>simp [intOf];omega
    ·(try have d1:decide ((c:Int)<=122)=false:=(by simp;omega))
     (try have d2:decide ((c:Int)<=90)=false:=(by simp;omega))
     go_wp2;go_ret;exact ⟨Zao (Zb9 hkl (by rw [←HX.o];exact ZdD (by rw [←HCC.o];omega))).symm,rfl⟩
  ·have hkn:k=l.length:=by have:=HN.o;omega
   have hnm:ZbN l=(decide (1<=n) && decide (n<=32)):=by unfold ZbN;rw [←hkn,HOK.o,Yax,hkn,HN.o]
   have HNM:=Hd hnm;clear hnm hkn;by_cases g1:1<=n
   ·have g1':(1:Int)<=n:=by omega
    by_cases g2:n<=32
    ·have g2':(n:Int)<=32:=by omega
     go_wp2;go_ret;exact ⟨Zao (by rw [HNM.o];simp [g1,g2]),rfl⟩
    ·have g2':(32:Int)<n:=by omega
     go_wp2;go_ret;exact ⟨Zao (by rw [HNM.o];simp [g2];omega),rfl⟩
   ·have g1':(n:Int)<1:=by omega
    go_wp2;go_ret;exact ⟨Zao (by rw [HNM.o];simp [g1]),rfl⟩
theorem Zcu (l:List UInt8) (w:World) (hlim:l.length<=9223372036854775807) :
  Calls Tryz.prog 186 #[.string (S l)] w fun e w'=>e=.returned (.bool (Zak l))/\w=w':=by
 have HNAME:=Hd (ZfV l w hlim);have hsz:((S l).size:Int)=(l.length:Int):=by rw [ZaB]
 cases hn:ZbN l with
 | false=>
  rw [hn] at HNAME;have HCL:=Hd (show Zak l=false by unfold Zak;rw [hn,YaD]);clear hn;go_enter Tryz.func186,Tryz.ntmps186
  go_wp2_with fail
  refine HNAME.o.mono ?_;rintro e w' ⟨rfl,rfl⟩;go_wp2;go_ret;exact ⟨Zao HCL.o.symm,rfl⟩
 | true=>
  rw [hn] at HNAME;have hp:=ZbH hn;obtain ⟨x,hx⟩:∃ x,x=l.getD 0 0:=⟨_,rfl⟩
  obtain ⟨c,hc⟩:∃ c,c=x.toNat:=⟨_,rfl⟩
  have hget:∀ h:0<(S l).size,((S l)[0]'h).toNat=c:=fun h=>by rw [hc,hx,S_at l 0 (by omega) h]
  have HCL:=Hd (show Zak l=decide (c<=90) by unfold Zak;rw [hn,Yax,←hx,←hc]);have hl1:(1:Int)<=l.length:=by omega
  clear hn hx hc;go_enter Tryz.func186,Tryz.ntmps186
  go_wp2_with fail
  refine HNAME.o.mono ?_;rintro e w' ⟨rfl,rfl⟩;go_wp2;go_ret;exact ⟨Zao (by rw [HCL.o,decide_eq_decide];omega),rfl⟩
theorem ZdG (l:List UInt8) (w:World) (hlim:l.length<=9223372036854775807) :
  Calls Tryz.prog 187 #[.string (S l)] w fun e w'=>e=.returned (.bool (ZaF l))/\w=w':=by
 have HNAME:=Hd (ZfV l w hlim);have hsz:((S l).size:Int)=(l.length:Int):=by rw [ZaB]
 cases hn:ZbN l with
 | false=>
  rw [hn] at HNAME;have HCL:=Hd (show ZaF l=false by unfold ZaF;rw [hn,YaD]);clear hn;go_enter Tryz.func187,Tryz.ntmps187
  go_wp2_with fail
  refine HNAME.o.mono ?_;rintro e w' ⟨rfl,rfl⟩;go_wp2;go_ret;exact ⟨Zao HCL.o.symm,rfl⟩
 | true=>
  rw [hn] at HNAME;have hp:=ZbH hn;obtain ⟨x,hx⟩:∃ x,x=l.getD 0 0:=⟨_,rfl⟩
  obtain ⟨c,hc⟩:∃ c,c=x.toNat:=⟨_,rfl⟩
  have hget:∀ h:0<(S l).size,((S l)[0]'h).toNat=c:=fun h=>by rw [hc,hx,S_at l 0 (by omega) h]
  have HCL:=Hd (show ZaF l=decide (97<=c) by unfold ZaF;rw [hn,Yax,←hx,←hc]);have hl1:(1:Int)<=l.length:=by omega
  clear hn hx hc;go_enter Tryz.func187,Tryz.ntmps187
  go_wp2_with fail
  refine HNAME.o.mono ?_;rintro e w' ⟨rfl,rfl⟩;go_wp2;go_ret;exact ⟨Zao (by rw [HCL.o,decide_eq_decide];omega),rfl⟩
theorem Zcn (l m:List UInt8):((S l).toList == m)=decide (l=m):=by
 rw [Zae];by_cases h:l=m
 ·subst h;simp
 ·simp [h]
theorem Zbe (l:List UInt8) (w:World) :
  Calls Tryz.prog 61 #[.string (S l)] w fun e w'=>e=.returned (.bool (Zas l))/\w=w':=by
 have t1:((S l).toList == [105,110,116])=decide (l=kInt):=Zcn l kInt;have t2:((S l).toList == [98,111,111,108])=decide (l=Znc):=Zcn l Znc;have t3:((S l).toList == [116,101,120,116])=decide (l=Znd):=Zcn l Znd;by_cases h1:l=kInt
 ·have HP:=Hd (show Zas l=true by unfold Zas;simp [h1]);rw [Yar h1] at t1;clear h1 t2 t3;go_enter Tryz.func61,Tryz.ntmps61;go_wp2;go_ret;exact ⟨Zao HP.o.symm,rfl⟩
 rw [Yaj h1] at t1;by_cases h2:l=Znc
 ·have HP:=Hd (show Zas l=true by unfold Zas;simp [h2]);rw [Yar h2] at t2;clear h1 h2 t3;go_enter Tryz.func61,Tryz.ntmps61;go_wp2;go_ret;exact ⟨Zao HP.o.symm,rfl⟩
 rw [Yaj h2] at t2;have HP:=Hd (show Zas l=decide (l=Znd) by unfold Zas;simp [h1,h2]);by_cases h3:l=Znd
 ·rw [Yar h3] at t3 HP;clear h1 h2 h3;go_enter Tryz.func61,Tryz.ntmps61;go_wp2;go_ret;exact ⟨Zao HP.o.symm,rfl⟩
 ·rw [Yaj h3] at t3 HP;clear h1 h2 h3;go_enter Tryz.func61,Tryz.ntmps61;go_wp2;go_ret;exact ⟨Zao HP.o.symm,rfl⟩
theorem Zec (l:List UInt8) (w:World) (hlim:l.length<=9223372036854775807) :
  Calls Tryz.prog 194 #[.string (S l)] w fun e w'=>e=.returned (.int .i64 (ZaV l:Nat))/\w=w':=by
 obtain ⟨N,hN⟩:∃ N,N=ZaV l:=⟨_,rfl⟩
 have hN40:N<=9223372036854775807:=by rw [hN];have:=Zdz l;omega
 rw [←hN];have HN:=Hd hN;clear hN;go_enter Tryz.func194,Tryz.ntmps194;go_wp2
 go_loop [0,3] (fun v0 v3=>∃ (r:List UInt8) (k:Nat),v0=.string (S r)/\v3=.int .i64 k/\k+ZaV r=N/\r.length<=9223372036854775807) (fun _ v3=>N - (intOf v3).toNat)
 case atStart=>exact ⟨l,0,rfl,rfl,by rw [Ybd,HN.o],hlim⟩
 case round=>
  obtain ⟨r,k,rfl,rfl,hk,hr⟩:=hrel;have hsz:((S r).size:Int)=(r.length:Int):=by rw [ZaB]
  have HK:=Hd hk;have hkN:k<=N:=by omega
  clear hk;cases he:Zbt r with
  | true=>
   have h2:=Zdl he;have hd:=ZcE he;have hcut:=Zff r (r.length - 2);have hdrop:r.drop (r.length - 2)=[91,93]:=by
    unfold Zbt at he;simp at he
    exact he.2
   rw [hdrop] at hcut;have htk:=Zga r (r.length - 2);have hk2:k+1+ZaV (r.take (r.length - 2))=N:=by have:=HK.o;omega
   have HK2:=Hd hk2;have hkN2:k+1<=N:=by omega
   obtain ⟨m,hm⟩:∃ m,m=r.length - 2:=⟨_,rfl⟩
   rw [←hm] at hcut htk HK2;have hm2:(r.length:Int) - 2=(m:Int):=by omega
   have hm3:(2:Int)<=(r.length:Int):=by omega
   have hm4:(0:Int)<=m:=by omega
   have hm5:(m:Int)<=(r.length:Int):=by omega
   have htl:(r.take m).length<=9223372036854775807:=by rw [Yaz];omega
   have hq:((S [91,93]).toList == [91,93])=true:=by rw [Zae];rfl
   have HTL:=Hd htl;clear hd hdrop he hk2 hm htl;generalize r.length=R at *;go_wp2
   go_round
   case rel=>exact ⟨r.take m,k+1,rfl,by go_num,HK2.o,HTL.o⟩
   case measure=>simp [intOf];omega
  | false=>
   have hkN2:k=N:=by have:=HK.o;rw [ZcQ he] at this;omega
   by_cases h2:2<=r.length
   ·have hcut:=Zff r (r.length - 2);have hdrop:r.drop (r.length - 2) ≠ [91,93]:=by
     unfold Zbt at he;simp at he
     exact he h2
    obtain ⟨m,hm⟩:∃ m,m=r.length - 2:=⟨_,rfl⟩
    rw [←hm] at hcut hdrop;have hm2:(r.length:Int) - 2=(m:Int):=by omega
    have hm3:(2:Int)<=(r.length:Int):=by omega
    have hm4:(0:Int)<=m:=by omega
    have hm5:(m:Int)<=(r.length:Int):=by omega
    have hq:((S (r.drop m)).toList == [91,93])=false:=by rw [Zae,Yah];exact hdrop
    have HKN:=Hd hkN2;clear hdrop he hm hkN2;generalize r.length=R at *;go_wp2;go_ret;exact ⟨Zhg (by rw [HKN.o]),rfl⟩
   ·have hm3:(r.length:Int)<2:=by omega
    have HKN:=Hd hkN2;clear he hkN2;go_wp2;go_ret;exact ⟨Zhg (by rw [HKN.o]),rfl⟩
theorem ZbS (l:List UInt8) (w:World) (hlim:l.length<=9223372036854775807) :
  Calls Tryz.prog 127 #[.string (S l)] w fun e w'=>e=.returned (.bool (Zaj l))/\w=w':=by
 have HD:=Hd (Zec l w hlim);have hsz:((S l).size:Int)=(l.length:Int):=by rw [ZaB]
 have hle:=Zdz l;have htk:=Zga l (l.length - 2 * ZaV l);have hbl:(Zbo l).length<=9223372036854775807:=by rw [Zc3];omega
 have HP:=Hd (Zbe (Zbo l));have HC:=Hd (fun w=>Zcu (Zbo l) w hbl);have HR:=Hd (show Zaj l=(decide (ZaV l<=3) && (Zas (Zbo l) || Zak (Zbo l))) from rfl);rw [show l.take (l.length - 2 * ZaV l)=Zbo l from rfl] at htk;clear hbl;generalize ZaV l=N at *;obtain ⟨m,hm⟩:∃ m,m=l.length - 2 * N:=⟨_,rfl⟩
 rw [←hm] at htk;have hm2:(l.length:Int) - 2 * (N:Int)=(m:Int):=by omega
 have hm4:(0:Int)<=m:=by omega
 have hm5:(m:Int)<=(l.length:Int):=by omega
 clear hm;by_cases h3:N<=3
 ·have h3':(N:Int)<=3:=by omega
  rw [Yar h3,Yax] at HR;cases hp:Zas (Zbo l) with
  | true=>
   rw [hp] at HP;rw [hp,Ycq] at HR;clear hp;go_enter Tryz.func127,Tryz.ntmps127
   go_wp2_with fail
   refine HD.o.mono ?_;rintro e w' ⟨rfl,rfl⟩
   go_wp2_with fail
   refine (HP.o w).mono ?_;rintro e w' ⟨rfl,rfl⟩;go_wp2;go_ret;exact ⟨Zao HR.o.symm,rfl⟩
  | false=>
   rw [hp] at HP;rw [hp,YaR] at HR;clear hp;go_enter Tryz.func127,Tryz.ntmps127
   go_wp2_with fail
   refine HD.o.mono ?_;rintro e w' ⟨rfl,rfl⟩
   go_wp2_with fail
   refine (HP.o w).mono ?_;rintro e w' ⟨rfl,rfl⟩
   go_wp2_with fail
   refine (HC.o w).mono ?_;rintro e w' ⟨rfl,rfl⟩;go_wp2;go_ret;exact ⟨Zao HR.o.symm,rfl⟩
 ·have h3':(3:Int)<(N:Int):=by omega
  rw [Yaj h3,YaD] at HR;go_enter Tryz.func127,Tryz.ntmps127
  go_wp2_with fail
  refine HD.o.mono ?_;rintro e w' ⟨rfl,rfl⟩;go_wp2;go_ret;exact ⟨Zao HR.o.symm,rfl⟩
theorem ZkD (l:List UInt8) (w:World) (hlim:l.length<=9223372036854775807) :
  Calls Tryz.prog 201 #[.string (S l),.string ⟨#[91,93]⟩] w fun e w'=>e=.returned (.bool (Zbt l))/\w=w':=by
 have hsz:((S l).size:Int)=(l.length:Int):=by rw [ZaB]
 by_cases h2:2<=l.length
 ·obtain ⟨m,hm⟩:∃ m,m=l.length - 2:=⟨_,rfl⟩
  have hcut:=Zff l m;have hm2:(l.length:Int) - 2=(m:Int):=by omega
  have hm3:(2:Int)<=(l.length:Int):=by omega
  have hm4:(0:Int)<=m:=by omega
  have hm5:(m:Int)<=(l.length:Int):=by omega
  have HE:=Hd (show Zbt l=((S (l.drop m)).toList == [91,93]) by rw [Zae,hm];unfold Zbt;rw [Yar h2,Yax,Ybg,YaO,beq_iff_eq]);clear hm h2;generalize l.length=L at *;go_enter Tryz.func201,Tryz.ntmps201;go_wp2;go_ret;exact ⟨Zao HE.o.symm,rfl⟩
 ·have hm3:(l.length:Int)<2:=by omega
  have HE:=Hd (show Zbt l=false by unfold Zbt;rw [Yaj h2,YaD]);clear h2;generalize l.length=L at *;go_enter Tryz.func201,Tryz.ntmps201;go_wp2;go_ret;exact ⟨Zao HE.o.symm,rfl⟩
theorem Zf2 (l:List UInt8) (w:World) (hlim:l.length<=9223372036854775807) (he:Zbt l=true) :
  Calls Tryz.prog 145 #[.string (S l),.string ⟨#[91,93]⟩] w fun e w'=>e=.returned (.string (S (l.take (l.length - 2))))/\w=w':=by
 have hsz:((S l).size:Int)=(l.length:Int):=by rw [ZaB]
 have h2:=Zdl he;obtain ⟨m,hm⟩:∃ m,m=l.length - 2:=⟨_,rfl⟩
 have hcut:=Zff l m;have htk:=Zga l m;have hm2:(l.length:Int) - 2=(m:Int):=by omega
 have hm3:(2:Int)<=(l.length:Int):=by omega
 have hm4:(0:Int)<=m:=by omega
 have hm5:(m:Int)<=(l.length:Int):=by omega
 have hdrop:l.drop m=[91,93]:=by
  unfold Zbt at he;simp at he
  rw [hm];exact he.2
 rw [hdrop] at hcut;have hq:((S [91,93]).toList == [91,93])=true:=by rw [Zae];rfl
 rw [←hm];clear hm h2 he hdrop;generalize l.length=L at *;go_enter Tryz.func145,Tryz.ntmps145;go_wp2;go_ret;exact ⟨rfl,rfl⟩
theorem Zrr:(Tryz.prog.info? 5).map (fun i=>(i.zero,i.size,i.bytes))=some (some (.int .u8 0),1,1):=by kernel_rfl
theorem ZaG (s:ByteArray) (w:World) (hlim:s.size<=281474976710656) :
  Calls Tryz.prog 63 #[.string s] w fun e w'=>e=.returned (.string s)/\Below w.heap.size w w':=by
 by_cases h0:s.size=0
 ·have hs:s=⟨#[]⟩:=by
   apply ByteArray.ext
   exact Array.eq_empty_of_size_eq_zero h0
  subst hs;go_enter Tryz.func63,Tryz.ntmps63;go_wp2;go_ret;exact ⟨rfl,Yab _ _⟩
 ·obtain ⟨i0,hi,hz0,hz1,hz2⟩:=info_parts Zrr;have hinfo:(Tryz.prog.info? 5).map (·.size)=some 1:=by rw [hi];simp [hz1]
  have hco:Tryz.prog.cellsOf 5=1:=by simp [Program.cellsOf,hi,hz1]
  obtain ⟨M,hM⟩:∃ M,M=madeCells (Value.int .u8 0).cells (((s.size:Nat):Int).toNat * i0.size):=⟨_,rfl⟩
  have hMs:M.size=s.size:=by rw [hM,size_madeCells,hz1];simp
  have hmk:∀ W:World,(Instr.makeSlice 169 (.int .i64 (s.size:Int)) (.int .i64 (s.size:Int))).run Tryz.prog W=.ok (.slice (some ⟨W.heap.size,0,none⟩) s.size s.size) (W.alloc (.cells M 5)):=fun W=>by
   have h:=run_make (P:=Tryz.prog) W 169 5 i0 (.int .u8 0) Tryz.underlying169 hi hz0 .i64 .i64 (s.size:Int) (s.size:Int) (by omega) (by omega) (by rw [hz2];omega) (by omega);rw [←hM] at h
   simpa using h
  clear hM;have hcp:=Lib.run_copy_row_string (P:=Tryz.prog) (w.alloc (.cells M 5)) 169 9 3 5 w.heap.size 0 s.size s.size s M 5 Tryz.underlying169 hinfo (heap_alloc_new w _) (Yac _) (by omega);obtain ⟨Y,hY⟩:∃ Y,Y=(M.toList.take 0++Lib.byteCells s.data.toList++M.toList.drop (0+s.size)).toArray:=⟨_,rfl⟩
  rw [←hY] at hcp;have hYl:Y.toList=Lib.byteCells s.data.toList:=by
   rw [hY,List.toList_toArray,YbM,Ybm,List.drop_of_length_le (by rw [Ybt];omega),Ya3]
  have hYs:Y.size=s.size:=by rw [←Ybt,hYl,Lib.byteCells_length,←Lib.size_eq]
  have hgY:((w.alloc (.cells M 5)).setRow w.heap.size Y).heap[w.heap.size]? = some (.cells Y 5 (0,0)):=setRow_heap _ _ M _ 5 (0,0) (heap_alloc_new w _);have hne:s.data.toList ≠ []:=fun e=>h0 (by rw [Lib.size_eq,e];rfl)
  have hUS:=Lib.run_unsafeString_row (P:=Tryz.prog) ((w.alloc (.cells M 5)).setRow w.heap.size Y) 170 3 9 5 Tryz.underlying170 hco w.heap.size Y.size (by unfold World.shape?;rw [hgY]) s.data.toList hne (by rw [←Lib.size_eq];omega) (by rw [←Lib.size_eq];omega)
   (fun j x hx=>Lib.cells_of_row hgY Y.size j _ (by rw [Yay (by rw [Ybt];exact Yac _),hYl];simp [Lib.byteCells,hx]))
  rw [←Lib.size_eq] at hUS;clear hY;go_enter Tryz.func63,Tryz.ntmps63;go_wp2;go_ret;have hb1:Below w.heap.size w (w.alloc (.cells M 5)):=(Yab _ w).alloc (Yac _) _;have hb2:Below w.heap.size (w.alloc (.cells M 5)) ((w.alloc (.cells M 5)).setRow w.heap.size Y):=⟨rfl,rfl,rfl,by simp,fun k hk=>setRow_other _ _ _ _ (by omega)⟩;exact ⟨rfl,Lib.below_freeze (hb1.trans hb2) (p:=⟨w.heap.size,0,none⟩) (Yac _) _⟩
theorem ZmT (l:List UInt8):Lib.indexByte l 46=if ZaW l<l.length then (ZaW l:Int) else -1:=by
 unfold ZaW;induction l with
 | nil=>rfl
 | cons b l ih=>
  rw [Lib.indexByte,List.findIdx_cons,ih];cases hb:(b == 46) with
  | true=>simp
  | false=>
   have hle:List.findIdx (fun c=>c == 46) l<=l.length:=List.findIdx_le_length;simp only [YbR,if_false,cond_false,YaJ];by_cases h:List.findIdx (fun c=>c == 46) l<l.length
   ·have h1:List.findIdx (fun c=>c == 46) l+1<l.length+1:=by omega
    rw [YaA h,YaA h1,Yaq (by simp)];omega
   ·have h1:¬ List.findIdx (fun c=>c == 46) l+1<l.length+1:=by omega
    rw [Yaq h,Yaq h1];rfl
theorem Zeq (s:ByteArray) (c:Int) (w:World) :
  Calls Tryz.prog 268 #[.string s,.int .u8 c] w fun e w'=>e=.returned (.int .i64 (Lib.indexByte s.data.toList c.toNat.toUInt8))/\w=w':=by
 go_enter Tryz.func268,Tryz.ntmps268;go_wp2;rw [run_callFunc_extern Tryz.func275 (by kernel_rfl) (by kernel_rfl) (by kernel_rfl) (e:=Extern.BytealgIndexByte.indexByte) (by kernel_rfl),Lib.run_indexByteString];simp only [Result.andThen];rw [Oper.upon_value];go_wp2;go_ret;exact ⟨rfl,rfl⟩
theorem ZmU (s:ByteArray) (w:World) :
  Calls Tryz.prog 260 #[.string s,.string ⟨#[46]⟩] w fun e w'=>e=.returned (.int .i64 (Lib.indexByte s.data.toList 46))/\w=w':=by
 go_enter Tryz.func260,Tryz.ntmps260
 go_wp2_with (go_at_call 268;refine (Zeq _ _ _).mono ?_;rintro e w' ⟨rfl,rfl⟩)
 ·have h:([46] == s.toList)=true:=by assumption
  go_ret;refine ⟨?_,rfl⟩;have e:s.data.toList=[46]:=by rw [←Lib.toList_data];exact (beq_iff_eq.1 h).symm
  rw [e];simp [Lib.indexByte]
 ·go_ret;exact ⟨rfl,rfl⟩
def ZqN (l:List UInt8) (w:World) (e:Ending) (w':World):Prop:=
 (∃ q,w'=w.drewN q)/\((ZaW l<l.length/\e=.returned (.tuple #[.string (S (l.take (ZaW l))),.string (S (l.drop (ZaW l+1))),.bool true]))\/
  (l.length<=ZaW l/\e=.returned (.tuple #[.string (S l),.string ⟨#[]⟩,.bool false])))
theorem ZiP (l:List UInt8) (w:World) (hlim:l.length<=9223372036854775807) :
  Calls Tryz.prog 251 #[.string (S l),.string ⟨#[46]⟩] w (ZqN l w):=by
 have hix:=ZmU (S l) w;rw [ZjH,ZmT] at hix;by_cases h:ZaW l<l.length
 ·rw [YaA h] at hix;have HIX:=Hd hix;have hsz:((S l).size:Int)=(l.length:Int):=by rw [ZaB]
  have HL:=Hd h;obtain ⟨k,hk⟩:∃ k,k=ZaW l:=⟨_,rfl⟩
  rw [←hk] at h HIX;have HK:=Hd hk;have hcut1:=Zga l k;have hcut2:=Zff l (k+1);have w3:(0:Int)<=(k:Int)+1:=by omega
  have w4:(k:Int)+1<=(l.length:Int):=by omega
  have w5:(0:Int)<=(k:Int):=by omega
  have w6:(k:Int)<=(l.length:Int):=by omega
  have w2:((k:Int)+1).toNat=k+1:=by omega
  have w1:IntKind.i64.wrap ((k:Int)+1)=(k:Int)+1:=IntWalk.i64_in _ (by omega);clear hix hk h;go_enter Tryz.func251,Tryz.ntmps251
  go_wp2_with (go_at_call 260;refine HIX.o.mono ?_;rintro e w' ⟨rfl,rfl⟩)
  go_quiet (fail)
  go_wp2
  go_ret3;exact ⟨⟨nq,rfl⟩,.inl ⟨HL.o,by rw [←HK.o];rfl⟩⟩
 ·rw [Yaq h] at hix;have HIX:=Hd hix;have HL:=Hd (show l.length<=ZaW l by omega);clear hix h;go_enter Tryz.func251,Tryz.ntmps251
  go_wp2_with (go_at_call 260;refine HIX.o.mono ?_;rintro e w' ⟨rfl,rfl⟩)
  go_ret3;exact ⟨⟨0,rfl⟩,.inr ⟨HL.o,rfl⟩⟩
theorem Zqd (l:List UInt8) (w:World) (hlim:l.length<=9223372036854775807) :
  Calls Tryz.prog 232 #[.string (S l),.string ⟨#[46]⟩] w (ZqN l w):=by
 go_enter Tryz.func232,Tryz.ntmps232
 go_wp2_with fail
 refine (ZiP l w hlim).mono ?_;rintro e w' ⟨hw,h⟩;have HW:=Hd hw;clear hw;rcases h with ⟨h,rfl⟩|⟨h,rfl⟩
 ·have HL:=Hd h;clear h;go_wp2
  go_ret3;exact ⟨HW.o,.inl ⟨HL.o,rfl⟩⟩
 ·have HL:=Hd h;clear h;go_wp2
  go_ret3;exact ⟨HW.o,.inr ⟨HL.o,rfl⟩⟩
def okP (p:Int->Bool) (i:Nat) (c:UInt8):Bool:=(decide (i ≠ 0) || p c.toNat) && (Zcl c || ZdJ c)
def ZfN (p:Int->Bool) (l:List UInt8) (k:Nat):Bool:=(List.range k).all fun i=>okP p i (l.getD i 0)
def Zc8 (p:Int->Bool) (l:List UInt8):Bool:=ZfN p l l.length && (decide (1<=l.length) && decide (l.length<=32))
theorem ZcI (p:Int->Bool) (l:List UInt8) (k:Nat):ZfN p l (k+1)=(ZfN p l k && okP p k (l.getD k 0)):=by
 unfold ZfN;rw [YbV,Ycr];simp
theorem Zk0 (p:Int->Bool) (l:List UInt8):ZfN p l 0=true:=by simp [ZfN]
theorem Zbi {p:Int->Bool} {l:List UInt8} {k:Nat} (hk:k<l.length) (h:okP p k (l.getD k 0)=false):Zc8 p l=false:=by
 have h1:ZfN p l l.length=false:=by
  unfold ZfN;rw [YbZ];exact ⟨k,by simpa using hk,by rw [h];decide⟩
 unfold Zc8;rw [h1,YaD]
theorem Zjg {p:Int->Bool} {l:List UInt8} (h:32<l.length):Zc8 p l=false:=by
 unfold Zc8;rw [Yaj (show ¬ l.length<=32 by omega),Ybv,Ybv]
theorem Zjh (p:Int->Bool):Zc8 p []=false:=by unfold Zc8;simp
def upI (r:Int):Bool:=decide (65<=r) && decide (r<=90)
def loI (r:Int):Bool:=decide (97<=r) && decide (r<=122)
def leI (r:Int):Bool:=upI r || loI r
theorem ZfL (p:Int->Bool) (q:UInt8->Bool) (l:List UInt8) (hq:∀ c:UInt8,(p c.toNat && (Zcl c || ZdJ c))=(Zcl c && q c)):Zc8 p l=(ZbN l && q (l.getD 0 0)):=by
 unfold Zc8 ZbN;cases l with
 | nil=>simp
 | cons b t=>
  have h1:ZfN p (b :: t) (b :: t).length=(okTo (b :: t) (b :: t).length && q b):=by
   unfold ZfN okTo;rw [YaJ,List.range_succ_eq_map,YbY,YbY];have e0:okP p 0 ((b :: t).getD 0 0)=(okAt 0 ((b :: t).getD 0 0) && q b):=by
    show okP p 0 b=(okAt 0 b && q b)
    unfold okP okAt;have:=hq b;simp only [ne_eq,not_true_eq_false,decide_false,YaR,YaD,Bool.or_false];exact this
   have e1:((List.range t.length).map Nat.succ).all (fun i=>okP p i ((b :: t).getD i 0))=((List.range t.length).map Nat.succ).all (fun i=>okAt i ((b :: t).getD i 0)):=by
    rw [List.all_map,List.all_map];exact Ya5 (fun f=>(List.range t.length).all f) (funext fun i=>by simp [okP,okAt])
   rw [e0,e1,YaQ,YaQ]
   congr 1
   exact Bool.and_comm _ _
  rw [h1];show _=(_ && q b)
  cases okTo (b :: t) (b :: t).length <;> cases q b <;> simp
theorem Znz (l:List UInt8):Zc8 upI l=Zak l:=by
 unfold Zak;rw [ZfL upI (fun c=>decide (c.toNat<=90)) l (fun c=>by
  unfold upI Zcl ZdJ;rw [Ybg];simp only [Yat,YaS,YaO];omega)]
theorem Zny (l:List UInt8):Zc8 loI l=ZaF l:=by
 unfold ZaF;rw [ZfL loI (fun c=>decide (97<=c.toNat)) l (fun c=>by
  unfold loI Zcl ZdJ;rw [Ybg];simp only [Yat,YaS,YaO];omega)]
theorem Znx (l:List UInt8):Zc8 leI l=ZbN l:=by
 rw [ZfL leI (fun _=>true) l (fun c=>by
  unfold leI upI loI Zcl ZdJ;rw [Ybg];simp only [Yat,YaS,YaO,and_true];omega),YbX]
theorem ZqF (l:List UInt8) (k:Nat) (hk:k<l.length) (h:k<(S l).size) :
  ((l.getD k 0).toNat<128/\Utf8.decode (S l) k=((l.getD k 0).toNat,1))\/
  (128<=(l.getD k 0).toNat/\128<=(Utf8.decode (S l) k).1/\(Utf8.decode (S l) k).1<=2147483647/\1<=(Utf8.decode (S l) k).2):=by
 have e:=S_at l k hk h;by_cases ha:(l.getD k 0).toNat<128
 ·exact .inl ⟨ha,by rw [decode_ascii (S l) k h (by rw [e];exact ha),e]⟩
 ·have:=decode_high (S l) k h (by rw [e];omega);exact .inr ⟨by omega,this.1,decode_le (S l) k,this.2⟩
theorem Zix (r:Int) (w:World):Calls Tryz.prog 206 #[.int .i32 r] w fun e w'=>e=.returned (.bool (upI r))/\w=w':=by
 unfold upI;by_cases h1:65<=r
 ·rw [Yar h1,Yax];go_enter Tryz.func206,Tryz.ntmps206;go_wp2;go_ret;exact ⟨rfl,rfl⟩
 ·rw [Yaj h1,YaD];have h2:r<65:=by omega
  go_enter Tryz.func206,Tryz.ntmps206;go_wp2;go_ret;exact ⟨rfl,rfl⟩
theorem Zia (r:Int) (w:World):Calls Tryz.prog 233 #[.int .i32 r] w fun e w'=>e=.returned (.bool (loI r))/\w=w':=by
 unfold loI;by_cases h1:97<=r
 ·rw [Yar h1,Yax];go_enter Tryz.func233,Tryz.ntmps233;go_wp2;go_ret;exact ⟨rfl,rfl⟩
 ·rw [Yaj h1,YaD];have h2:r<97:=by omega
  go_enter Tryz.func233,Tryz.ntmps233;go_wp2;go_ret;exact ⟨rfl,rfl⟩
theorem ZkN (r:Int) (w:World):Calls Tryz.prog 238 #[.int .i32 r] w fun e w'=>e=.returned (.bool (leI r))/\w=w':=by
 have HU:=Hd (Zix r w);have HL:=Hd (Zia r w);unfold leI;cases hu:upI r with
 | true=>
  rw [hu] at HU;rw [Ycq];clear hu;go_enter Tryz.func238,Tryz.ntmps238
  go_wp2_with fail
  refine HU.o.mono ?_;rintro e w' ⟨rfl,rfl⟩;go_wp2;go_ret;exact ⟨rfl,rfl⟩
 | false=>
  rw [hu] at HU;rw [YaR];clear hu;go_enter Tryz.func238,Tryz.ntmps238
  go_wp2_with fail
  refine HU.o.mono ?_;rintro e w' ⟨rfl,rfl⟩
  go_wp2_with fail
  refine HL.o.mono ?_;rintro e w' ⟨rfl,rfl⟩;go_wp2;go_ret;exact ⟨rfl,rfl⟩
