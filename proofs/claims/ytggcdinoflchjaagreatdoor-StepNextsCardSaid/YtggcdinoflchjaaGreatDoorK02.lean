/- laws -/
import Derived.Test.YtggcdinoflchjaaGreatDoorK01
import Derived.Test.YtggcdinoflchjaaGreatDoorProg
import Derived.IntWalk
import Derived.Lib.Bytealg
import Derived.Lib.BufferWrite
import Derived.Lib.UnsafeStr
import Derived.Laws.MakeOwn
import Derived.Laws.Strings3
import Derived.Deep.QuietTactic
import Derived.BigQuiet
import Derived.Laws.RangeAny
set_option maxRecDepth 100000
set_option maxHeartbeats 16000000
namespace Go.Proofs.YtggcdinoflchjaaGreatDoor
open Go.RowKit
structure Fld where
 name:List UInt8
 kind:List UInt8
 tr:Bool
structure Cat where
 fr:Int
 till:Int
 at_:Int
 cls:List UInt8
abbrev strV (x:List UInt8):Value:=.string (S x)
abbrev fldV (f:Fld):Value:=.agg #[.string (S f.name),.string (S f.kind),.bool f.tr]
abbrev catV (c:Cat):Value:=.agg #[.int .i64 c.fr,.int .i64 c.till,.int .i64 c.at_,.string (S c.cls)]
abbrev StrR:Zao (List UInt8):=Flat strV
abbrev FldR:Zao Fld:=Flat fldV
abbrev CatR:Zao Cat:=Flat catV
theorem StrR.st:Stays StrR:=Flat.stays _
theorem FldR.st:Stays FldR:=Flat.stays _
theorem CatR.st:Stays CatR:=Flat.stays _
theorem Zcm {α:Type} (p:α->Bool) (l:List α) (k:Nat) (x:α) (h:l[k]? = some x):(l.take (k+1)).all p=((l.take k).all p && p x):=by
 rw [List.take_add_one,h];simp
theorem Zah {α:Type} (p:α->Bool) (l:List α) (k:Nat) (x:α) (h:l[k]? = some x):(l.take (k+1)).any p=((l.take k).any p || p x):=by
 rw [List.take_add_one,h];simp
theorem Zcw {α:Type} (p:α->Bool) (l:List α):l.all p = !l.any (fun x=>!p x):=by
 induction l with
 | nil=>rfl
 | cons x l ih=>simp [ih]
def Ze2 (l:List (List UInt8)) (k:Nat):Bool:=!(l.take k).any (fun y=>y == l.getD k [])
def Zbp (l:List (List UInt8)) (k:Nat):Bool:=(List.range k).all (Ze2 l)
def Zbz (l:List (List UInt8)):Bool:=Zbp l l.length
theorem Zdj (l:List (List UInt8)):Zbp l 0=true:=by simp [Zbp]
theorem Zdi (l:List (List UInt8)) (k:Nat):Zbp l (k+1)=(Zbp l k && Ze2 l k):=by
 unfold Zbp;rw [List.range_succ,List.all_append];simp
theorem ZeV (l:List (List UInt8)) (k m:Nat) (hkm:k<=m) (h:Zbp l k=false):Zbp l m=false:=by
 unfold Zbp at h ⊢;rw [List.all_eq_false] at h ⊢;obtain ⟨i,hi,hn⟩:=h;exact ⟨i,by simp at hi ⊢;omega,hn⟩
def Box (w:World) (B:Nat) (cs:Array Value) (t:TypeId):Prop:=w.heap[B]? = some (.cells cs t (0,0))
theorem Box.new (w:World) (cs:Array Value) (t:TypeId):Box (w.alloc (.cells cs t)) w.heap.size cs t:=heap_alloc_new w _
theorem Box.cell {w:World} {B:Nat} {cs:Array Value} {t:TypeId} (h:Box w B cs t) (j:Nat) {v:Value} (hj:cs[j]? = some v):w.cell? ⟨B,j,none⟩=some v:=by
 unfold Box at h;unfold World.cell?;rw [h];exact hj
theorem Box.keep {S:Nat->Prop} {w w':World} {B:Nat} {cs:Array Value} {t:TypeId} (h:Box w B cs t) (ho:Only S w w') (hn:¬ S B):Box w' B cs t:=ho.heap h hn
theorem Box.below {w w':World} {B:Nat} {cs:Array Value} {t:TypeId} (h:Box w B cs t) (hb:Below w.heap.size w w'):Box w' B cs t:=h.keep (Only.ofBelow (S:=fun _=>False) hb) id
theorem Box.lt {w:World} {B:Nat} {cs:Array Value} {t:TypeId} (h:Box w B cs t):B<w.heap.size:=lt_of_block h
end Go.Proofs.YtggcdinoflchjaaGreatDoor
namespace Go.Proofs.YtggcdinoflchjaaGreatDoor

def Zb6 (c:UInt8):Bool:=(decide (97<=c.toNat) && decide (c.toNat<=122)) || (decide (65<=c.toNat) && decide (c.toNat<=90))
def Zdr (c:UInt8):Bool:=decide (48<=c.toNat) && decide (c.toNat<=57)
def okAt (i:Nat) (c:UInt8):Bool:=Zb6 c || (decide (i ≠ 0) && Zdr c)
def okTo (l:List UInt8) (k:Nat):Bool:=(List.range k).all fun i=>okAt i (l.getD i 0)
def ZbH (l:List UInt8):Bool:=okTo l l.length && (decide (1<=l.length) && decide (l.length<=32))
def Zal (l:List UInt8):Bool:=ZbH l && decide ((l.getD 0 0).toNat<=90)
def ZaB (l:List UInt8):Bool:=ZbH l && decide (97<=(l.getD 0 0).toNat)
def kInt:List UInt8:=[105,110,116]
def ZmD:List UInt8:=[98,111,111,108]
def ZmE:List UInt8:=[116,101,120,116]
def ZaA (l:List UInt8):Bool:=decide (l=kInt) || decide (l=ZmD) || decide (l=ZmE)
def Zbh (l:List UInt8):Bool:=decide (2<=l.length) && decide (l.drop (l.length - 2)=[91,93])
def ZaO (l:List UInt8):Nat:=if h:Zbh l=true then ZaO (l.take (l.length - 2))+1 else 0
 termination_by l.length
 decreasing_by
  have:2<=l.length:=by
   unfold Zbh at h;simp at h
   exact h.1
  rw [List.length_take];omega
theorem Zc5 {l:List UInt8} (h:Zbh l=true):2<=l.length:=by
 unfold Zbh at h;simp at h
 exact h.1
theorem Zco {l:List UInt8} (h:Zbh l=true):ZaO l=ZaO (l.take (l.length - 2))+1:=by rw [ZaO,dif_pos h]
theorem Zcz {l:List UInt8} (h:Zbh l=false):ZaO l=0:=by rw [ZaO,dif_neg (by rw [h];decide)]
theorem Zdg (l:List UInt8):2 * ZaO l<=l.length:=by
 cases h:Zbh l with
 | true=>
  have h2:=Zc5 h;have ih:=Zdg (l.take (l.length - 2));rw [List.length_take] at ih;rw [Zco h];omega
 | false=>rw [Zcz h];omega
 termination_by l.length
 decreasing_by rw [List.length_take];omega
def Zbc (l:List UInt8):List UInt8:=l.take (l.length - 2 * ZaO l)
theorem ZcN (l:List UInt8):(Zbc l).length=l.length - 2 * ZaO l:=by unfold Zbc;rw [List.length_take];omega
def ZjP (l:List UInt8):Bool:=ZaA l || Zal l
def Zak (l:List UInt8):Bool:=decide (ZaO l<=3) && ZjP (Zbc l)
def ZcW (l:List UInt8):List UInt8:=if Zak l=true/\1<=ZaO l then l.take (l.length - 2) else []
def ZaP (l:List UInt8):Nat:=l.findIdx (fun c=>c == 46)
def ZaU (l:List UInt8):Bool:=decide (ZaP l<l.length) && (Zal (l.take (ZaP l)) && ZaB (l.drop (ZaP l+1)))

theorem Zda (l:List UInt8) (k:Nat):okTo l (k+1)=(okTo l k && okAt k (l.getD k 0)):=by
 unfold okTo;rw [List.range_succ,List.all_append];simp
theorem Zm2 (l:List UInt8):okTo l 0=true:=by simp [okTo]
theorem Zp4 (l:List UInt8) (k m:Nat) (hkm:k<=m) (h:okTo l k=false):okTo l m=false:=by
 unfold okTo at h ⊢;rw [List.all_eq_false] at h ⊢;obtain ⟨i,hi,hn⟩:=h;exact ⟨i,by simp at hi ⊢;omega,hn⟩
theorem Zbt {l:List UInt8} (h:ZbH l=true):1<=l.length/\l.length<=32:=by
 unfold ZbH at h;simp at h
 exact h.2
theorem Zgw {l:List UInt8} (h:ZbH l=true) (i:Nat) (hi:i<l.length):okAt i (l.getD i 0)=true:=by
 unfold ZbH okTo at h;simp only [Bool.and_eq_true,List.all_eq_true] at h;exact h.1 i (by simpa using hi)
theorem Zp3 (i:Nat) (c:UInt8) (h:okAt i c=true):c ≠ 91/\c ≠ 93/\c ≠ 46:=by
 refine ⟨?_,?_,?_⟩ <;> (rintro rfl;revert h;unfold okAt;cases i <;> simp <;> decide)
theorem Zc9 {l:List UInt8} (h:ZbH l=true):Zbh l=false:=by
 cases he:Zbh l with
 | false=>rfl
 | true=>
  exfalso
  have h2:=Zc5 he;unfold Zbh at he;simp at he
  have hd:(l.drop (l.length - 2))[0]? = some 91:=by rw [he.2];rfl
  rw [List.getElem?_drop,Nat.add_zero] at hd;have hk:l.getD (l.length - 2) 0=91:=by simp [List.getD,hd]
  exact (Zp3 _ _ (Zgw h (l.length - 2) (by omega))).1 hk
theorem ZdU {l:List UInt8} (h:ZaA l=true):ZbH l=true:=by
 unfold ZaA at h;simp at h
 rcases h with (h|h)|h <;> subst h <;> decide
theorem ZhN {l:List UInt8} (h:ZaA l=true):Zal l=false:=by
 unfold ZaA at h;simp at h
 rcases h with (h|h)|h <;> subst h <;> decide
theorem Zbe {l:List UInt8} (h:Zal l=true):ZbH l=true:=by unfold Zal at h;simp at h;exact h.1
theorem ZdK {l:List UInt8} (h:ZjP l=true):ZbH l=true:=by
 unfold ZjP at h;simp at h
 rcases h with h|h
 ·exact ZdU h
 ·exact Zbe h
def ofL (l:List UInt8):List UInt8:=l++[91,93]
theorem Zeq (l:List UInt8):(ofL l).length=l.length+2:=by simp [ofL]
theorem ZoK (l:List UInt8):Zbh (ofL l)=true:=by
 unfold Zbh;rw [Zeq];simp [ofL]
theorem ZoL (l:List UInt8):(ofL l).take ((ofL l).length - 2)=l:=by
 rw [Zeq];simp [ofL]
theorem Zgx (l:List UInt8):ZaO (ofL l)=ZaO l+1:=by rw [Zco (ZoK l),ZoL]
theorem ZoJ (l:List UInt8):Zbc (ofL l)=Zbc l:=by
 have h:=Zdg l;unfold Zbc;rw [Zgx,Zeq];unfold ofL;rw [List.take_append_of_le_length (by omega)]
 congr 1
 omega
theorem Zl4 {l:List UInt8} (h:Zbh l=true):ofL (l.take (l.length - 2))=l:=by
 unfold Zbh at h;simp at h
 unfold ofL;rw [←h.2];exact List.take_append_drop _ _
theorem Zg7 {l:List UInt8} (h:1<=ZaO l):Zbh l=true:=by
 cases he:Zbh l with
 | true=>rfl
 | false=>rw [Zcz he] at h;omega
theorem ZhK (l:List UInt8):Zak (ofL l)=(Zak l && decide (ZaO l<=2)):=by
 unfold Zak;rw [Zgx,ZoJ];by_cases h:ZaO l<=2
 ·have h3:ZaO l<=3:=by omega
  simp [h,h3]
 ·simp [h]
theorem Zj4 {l:List UInt8} (h:Zak l=true) (hd:1<=ZaO l):Zak (ZcW l)=true/\ZaO (ZcW l)=ZaO l - 1/\ofL (ZcW l)=l:=by
 have he:=Zg7 hd;have e1:ZcW l=l.take (l.length - 2):=by unfold ZcW;rw [if_pos ⟨h,hd⟩]
 have e2:ofL (ZcW l)=l:=by rw [e1];exact Zl4 he
 have e3:=ZhK (ZcW l);have e4:=Zgx (ZcW l);rw [e2] at e3 e4;rw [h] at e3;have e5:Zak (ZcW l)=true:=by
  cases hr:Zak (ZcW l) with
  | true=>rfl
  | false=>rw [hr] at e3;simp at e3
 exact ⟨e5,by omega,e2⟩
theorem Zet {l:List UInt8} (h:Zak l=true):ZbH (Zbc l)=true:=by
 unfold Zak at h;simp at h
 exact ZdK h.2
theorem ZgZ {l:List UInt8} (h:ZbH l=true):ZaO l=0:=Zcz (Zc9 h)
end Go.Proofs.YtggcdinoflchjaaGreatDoor
namespace Go.Proofs.YtggcdinoflchjaaGreatDoor
open Go.RowKit
theorem Zan {a b:Bool} (h:a=b):Ending.returned (.bool a)=.returned (.bool b):=by rw [h]
theorem Zec {k:Nat} {c:UInt8} (h:(97<=c.toNat/\c.toNat<=122)\/(65<=c.toNat/\c.toNat<=90)\/(k ≠ 0/\48<=c.toNat/\c.toNat<=57)):okAt k c=true:=by
 unfold okAt Zb6 Zdr;simp only [Bool.or_eq_true,Bool.and_eq_true,decide_eq_true_eq];omega
theorem Zdm {k:Nat} {c:UInt8} (h:¬ ((97<=c.toNat/\c.toNat<=122)\/(65<=c.toNat/\c.toNat<=90)\/(k ≠ 0/\48<=c.toNat/\c.toNat<=57))):okAt k c=false:=by
 cases hk:okAt k c with
 | false=>rfl
 | true=>
  exfalso
  apply h
  unfold okAt Zb6 Zdr at hk;simp only [Bool.or_eq_true,Bool.and_eq_true,decide_eq_true_eq] at hk;omega
theorem ZbT {l:List UInt8} {k:Nat} (hk:k<l.length) (h:okAt k (l.getD k 0)=false):ZbH l=false:=by
 have h1:okTo l (k+1)=false:=by rw [Zda,h,Bool.and_false]
 unfold ZbH;rw [Zp4 l (k+1) l.length hk h1,Bool.false_and]
theorem Zfq (l:List UInt8) (w:World) (hlim:l.length<=9223372036854775807) :
  Calls Tryz.prog 229 #[.string (S l)] w fun e w'=>e=.returned (.bool (ZbH l))/\w=w':=by
 have hsz:((S l).size:Int)=(l.length:Int):=by rw [Zaz]
 obtain ⟨n,hn⟩:∃ n,n=l.length:=⟨_,rfl⟩
 rw [←hn] at hsz;have HN:=Hd hn;have hn1:n<=9223372036854775807:=by omega
 clear hn hlim;go_enter Tryz.func229,Tryz.ntmps229;go_wp2
 go_loop [3] (fun v3=>∃ k:Nat,k<=n/\v3=.int .i64 k/\okTo l k=true) (fun v3=>n - (intOf v3).toNat)
 case atStart=>exact ⟨0,Nat.zero_le _,rfl,Zm2 l⟩
 case round=>
  obtain ⟨k,hk,rfl,hok⟩:=hrel;have HOK:=Hd hok;clear hok;by_cases hlt:k<n
  ·have hkl:k<l.length:=by have:=HN.out;omega
   obtain ⟨x,hx⟩:∃ x,x=l.getD k 0:=⟨_,rfl⟩
   obtain ⟨c,hc⟩:∃ c,c=x.toNat:=⟨_,rfl⟩
   have hget:∀ h:k<(S l).size,((S l)[k]'h).toNat=c:=fun h=>by rw [hc,hx,S_at l k hkl h]
   have HX:=Hd hx;have HCC:=Hd hc;have hc256:c<256:=by rw [hc];exact UInt8.toNat_lt _
   clear hx hc;by_cases hk0:k=0
   ·subst hk0;rcases (show (97<=(c:Int)/\(c:Int)<=122)\/122<(c:Int)\/(90<(c:Int)/\(c:Int)<97)\/(65<=(c:Int)/\(c:Int)<=90)\/(57<(c:Int)/\(c:Int)<65)\/(48<=(c:Int)/\(c:Int)<=57)\/(c:Int)<48 by omega) with h1|h1|h1|h1|h1|h1|h1
    ·obtain ⟨h1,h2⟩:=h1;go_wp2
     go_round
     case rel=>exact ⟨1,by omega,rfl,by rw [show 1=0+1 from rfl,Zda,HOK.out,←HX.out,Zec (by rw [←HCC.out];omega)];rfl⟩
     case measure=>simp [intOf];omega
    ·(try have d1:decide ((c:Int)<=122)=false:=(by simp;omega))
     (try have d2:decide ((c:Int)<=90)=false:=(by simp;omega))
     go_wp2;go_ret;exact ⟨Zan (ZbT hkl (by rw [←HX.out];exact Zdm (by rw [←HCC.out];omega))).symm,rfl⟩
    ·obtain ⟨h1,h2⟩:=h1
     (try have d2:decide ((c:Int)<=90)=false:=(by simp;omega))
     go_wp2;go_ret;exact ⟨Zan (ZbT hkl (by rw [←HX.out];exact Zdm (by rw [←HCC.out];omega))).symm,rfl⟩
    ·obtain ⟨h1,h2⟩:=h1;go_wp2
     go_round
     case rel=>exact ⟨1,by omega,rfl,by rw [show 1=0+1 from rfl,Zda,HOK.out,←HX.out,Zec (by rw [←HCC.out];omega)];rfl⟩
     case measure=>simp [intOf];omega
    ·obtain ⟨h1,h2⟩:=h1
     (try have d2:decide ((c:Int)<=90)=false:=(by simp;omega))
     go_wp2;go_ret;exact ⟨Zan (ZbT hkl (by rw [←HX.out];exact Zdm (by rw [←HCC.out];omega))).symm,rfl⟩
    ·obtain ⟨h1,h2⟩:=h1
     (try have d2:decide ((c:Int)<=90)=false:=(by simp;omega))
     go_wp2;go_ret;exact ⟨Zan (ZbT hkl (by rw [←HX.out];exact Zdm (by rw [←HCC.out];omega))).symm,rfl⟩
    ·(try have d1:decide ((c:Int)<=122)=false:=(by simp;omega))
     (try have d2:decide ((c:Int)<=90)=false:=(by simp;omega))
     go_wp2;go_ret;exact ⟨Zan (ZbT hkl (by rw [←HX.out];exact Zdm (by rw [←HCC.out];omega))).symm,rfl⟩
   ·have hkb:((k:Int) == 0)=false:=by rw [beq_eq_false_iff_ne];omega
    rcases (show (97<=(c:Int)/\(c:Int)<=122)\/122<(c:Int)\/(90<(c:Int)/\(c:Int)<97)\/(65<=(c:Int)/\(c:Int)<=90)\/(57<(c:Int)/\(c:Int)<65)\/(48<=(c:Int)/\(c:Int)<=57)\/(c:Int)<48 by omega) with h1|h1|h1|h1|h1|h1|h1
    ·obtain ⟨h1,h2⟩:=h1;go_wp2
     go_round
     case rel=>exact ⟨k+1,by omega,by go_num,by rw [Zda,HOK.out,←HX.out,Zec (by rw [←HCC.out];omega)];rfl⟩
     case measure=>simp [intOf];omega
    ·(try have d1:decide ((c:Int)<=122)=false:=(by simp;omega))
     (try have d2:decide ((c:Int)<=90)=false:=(by simp;omega))
     go_wp2;go_ret;exact ⟨Zan (ZbT hkl (by rw [←HX.out];exact Zdm (by rw [←HCC.out];omega))).symm,rfl⟩
    ·obtain ⟨h1,h2⟩:=h1
     (try have d2:decide ((c:Int)<=90)=false:=(by simp;omega))
     go_wp2;go_ret;exact ⟨Zan (ZbT hkl (by rw [←HX.out];exact Zdm (by rw [←HCC.out];omega))).symm,rfl⟩
    ·obtain ⟨h1,h2⟩:=h1;go_wp2
     go_round
     case rel=>exact ⟨k+1,by omega,by go_num,by rw [Zda,HOK.out,←HX.out,Zec (by rw [←HCC.out];omega)];rfl⟩
     case measure=>simp [intOf];omega
    ·obtain ⟨h1,h2⟩:=h1
     (try have d2:decide ((c:Int)<=90)=false:=(by simp;omega))
     go_wp2;go_ret;exact ⟨Zan (ZbT hkl (by rw [←HX.out];exact Zdm (by rw [←HCC.out];omega))).symm,rfl⟩
    ·obtain ⟨h1,h2⟩:=h1;go_wp2
     go_round
     case rel=>exact ⟨k+1,by omega,by go_num,by rw [Zda,HOK.out,←HX.out,Zec (by rw [←HCC.out];omega)];rfl⟩
     case measure=>simp [intOf];omega
    ·(try have d1:decide ((c:Int)<=122)=false:=(by simp;omega))
     (try have d2:decide ((c:Int)<=90)=false:=(by simp;omega))
     go_wp2;go_ret;exact ⟨Zan (ZbT hkl (by rw [←HX.out];exact Zdm (by rw [←HCC.out];omega))).symm,rfl⟩
  ·have hkn:k=l.length:=by have:=HN.out;omega
   have hnm:ZbH l=(decide (1<=n) && decide (n<=32)):=by unfold ZbH;rw [←hkn,HOK.out,Bool.true_and,hkn,HN.out]
   have HNM:=Hd hnm;clear hnm hkn;by_cases g1:1<=n
   ·have g1':(1:Int)<=n:=by omega
    by_cases g2:n<=32
    ·have g2':(n:Int)<=32:=by omega
     go_wp2;go_ret;exact ⟨Zan (by rw [HNM.out];simp [g1,g2]),rfl⟩
    ·have g2':(32:Int)<n:=by omega
     go_wp2;go_ret;exact ⟨Zan (by rw [HNM.out];simp [g2];omega),rfl⟩
   ·have g1':(n:Int)<1:=by omega
    go_wp2;go_ret;exact ⟨Zan (by rw [HNM.out];simp [g1]),rfl⟩
theorem Zcf (l:List UInt8) (w:World) (hlim:l.length<=9223372036854775807) :
  Calls Tryz.prog 186 #[.string (S l)] w fun e w'=>e=.returned (.bool (Zal l))/\w=w':=by
 have HNAME:=Hd (Zfq l w hlim);have hsz:((S l).size:Int)=(l.length:Int):=by rw [Zaz]
 cases hn:ZbH l with
 | false=>
  rw [hn] at HNAME;have HCL:=Hd (show Zal l=false by unfold Zal;rw [hn,Bool.false_and]);clear hn;go_enter Tryz.func186,Tryz.ntmps186
  go_wp2_with fail
  refine HNAME.out.mono ?_;rintro e w' ⟨rfl,rfl⟩;go_wp2;go_ret;exact ⟨Zan HCL.out.symm,rfl⟩
 | true=>
  rw [hn] at HNAME;have hp:=Zbt hn;obtain ⟨x,hx⟩:∃ x,x=l.getD 0 0:=⟨_,rfl⟩
  obtain ⟨c,hc⟩:∃ c,c=x.toNat:=⟨_,rfl⟩
  have hget:∀ h:0<(S l).size,((S l)[0]'h).toNat=c:=fun h=>by rw [hc,hx,S_at l 0 (by omega) h]
  have HCL:=Hd (show Zal l=decide (c<=90) by unfold Zal;rw [hn,Bool.true_and,←hx,←hc]);have hl1:(1:Int)<=l.length:=by omega
  clear hn hx hc;go_enter Tryz.func186,Tryz.ntmps186
  go_wp2_with fail
  refine HNAME.out.mono ?_;rintro e w' ⟨rfl,rfl⟩;go_wp2;go_ret;exact ⟨Zan (by rw [HCL.out,decide_eq_decide];omega),rfl⟩
theorem Zdo (l:List UInt8) (w:World) (hlim:l.length<=9223372036854775807) :
  Calls Tryz.prog 187 #[.string (S l)] w fun e w'=>e=.returned (.bool (ZaB l))/\w=w':=by
 have HNAME:=Hd (Zfq l w hlim);have hsz:((S l).size:Int)=(l.length:Int):=by rw [Zaz]
 cases hn:ZbH l with
 | false=>
  rw [hn] at HNAME;have HCL:=Hd (show ZaB l=false by unfold ZaB;rw [hn,Bool.false_and]);clear hn;go_enter Tryz.func187,Tryz.ntmps187
  go_wp2_with fail
  refine HNAME.out.mono ?_;rintro e w' ⟨rfl,rfl⟩;go_wp2;go_ret;exact ⟨Zan HCL.out.symm,rfl⟩
 | true=>
  rw [hn] at HNAME;have hp:=Zbt hn;obtain ⟨x,hx⟩:∃ x,x=l.getD 0 0:=⟨_,rfl⟩
  obtain ⟨c,hc⟩:∃ c,c=x.toNat:=⟨_,rfl⟩
  have hget:∀ h:0<(S l).size,((S l)[0]'h).toNat=c:=fun h=>by rw [hc,hx,S_at l 0 (by omega) h]
  have HCL:=Hd (show ZaB l=decide (97<=c) by unfold ZaB;rw [hn,Bool.true_and,←hx,←hc]);have hl1:(1:Int)<=l.length:=by omega
  clear hn hx hc;go_enter Tryz.func187,Tryz.ntmps187
  go_wp2_with fail
  refine HNAME.out.mono ?_;rintro e w' ⟨rfl,rfl⟩;go_wp2;go_ret;exact ⟨Zan (by rw [HCL.out,decide_eq_decide];omega),rfl⟩
theorem Zb7 (l m:List UInt8):((S l).toList == m)=decide (l=m):=by
 rw [Zae];by_cases h:l=m
 ·subst h;simp
 ·simp [h]
theorem ZcS (l:List UInt8) (w:World) :
  Calls Tryz.prog 61 #[.string (S l)] w fun e w'=>e=.returned (.bool (ZaA l))/\w=w':=by
 have t1:((S l).toList == [105,110,116])=decide (l=kInt):=Zb7 l kInt;have t2:((S l).toList == [98,111,111,108])=decide (l=ZmD):=Zb7 l ZmD;have t3:((S l).toList == [116,101,120,116])=decide (l=ZmE):=Zb7 l ZmE;by_cases h1:l=kInt
 ·have HP:=Hd (show ZaA l=true by unfold ZaA;simp [h1]);rw [decide_eq_true h1] at t1;clear h1 t2 t3;go_enter Tryz.func61,Tryz.ntmps61;go_wp2;go_ret;exact ⟨Zan HP.out.symm,rfl⟩
 rw [decide_eq_false h1] at t1;by_cases h2:l=ZmD
 ·have HP:=Hd (show ZaA l=true by unfold ZaA;simp [h2]);rw [decide_eq_true h2] at t2;clear h1 h2 t3;go_enter Tryz.func61,Tryz.ntmps61;go_wp2;go_ret;exact ⟨Zan HP.out.symm,rfl⟩
 rw [decide_eq_false h2] at t2;have HP:=Hd (show ZaA l=decide (l=ZmE) by unfold ZaA;simp [h1,h2]);by_cases h3:l=ZmE
 ·rw [decide_eq_true h3] at t3 HP;clear h1 h2 h3;go_enter Tryz.func61,Tryz.ntmps61;go_wp2;go_ret;exact ⟨Zan HP.out.symm,rfl⟩
 ·rw [decide_eq_false h3] at t3 HP;clear h1 h2 h3;go_enter Tryz.func61,Tryz.ntmps61;go_wp2;go_ret;exact ⟨Zan HP.out.symm,rfl⟩
theorem ZdV (l:List UInt8) (w:World) (hlim:l.length<=9223372036854775807) :
  Calls Tryz.prog 194 #[.string (S l)] w fun e w'=>e=.returned (.int .i64 (ZaO l:Nat))/\w=w':=by
 obtain ⟨N,hN⟩:∃ N,N=ZaO l:=⟨_,rfl⟩
 have hN40:N<=9223372036854775807:=by rw [hN];have:=Zdg l;omega
 rw [←hN];have HN:=Hd hN;clear hN;go_enter Tryz.func194,Tryz.ntmps194;go_wp2
 go_loop [0,3] (fun v0 v3=>∃ (r:List UInt8) (k:Nat),v0=.string (S r)/\v3=.int .i64 k/\k+ZaO r=N/\r.length<=9223372036854775807) (fun _ v3=>N - (intOf v3).toNat)
 case atStart=>exact ⟨l,0,rfl,rfl,by rw [Nat.zero_add,HN.out],hlim⟩
 case round=>
  obtain ⟨r,k,rfl,rfl,hk,hr⟩:=hrel;have hsz:((S r).size:Int)=(r.length:Int):=by rw [Zaz]
  have HK:=Hd hk;have hkN:k<=N:=by omega
  clear hk;cases he:Zbh r with
  | true=>
   have h2:=Zc5 he;have hd:=Zco he;have hcut:=ZeM r (r.length - 2);have hdrop:r.drop (r.length - 2)=[91,93]:=by
    unfold Zbh at he;simp at he
    exact he.2
   rw [hdrop] at hcut;have htk:=ZfD r (r.length - 2);have hk2:k+1+ZaO (r.take (r.length - 2))=N:=by have:=HK.out;omega
   have HK2:=Hd hk2;have hkN2:k+1<=N:=by omega
   obtain ⟨m,hm⟩:∃ m,m=r.length - 2:=⟨_,rfl⟩
   rw [←hm] at hcut htk HK2;have hm2:(r.length:Int) - 2=(m:Int):=by omega
   have hm3:(2:Int)<=(r.length:Int):=by omega
   have hm4:(0:Int)<=m:=by omega
   have hm5:(m:Int)<=(r.length:Int):=by omega
   have htl:(r.take m).length<=9223372036854775807:=by rw [List.length_take];omega
   have hq:((S [91,93]).toList == [91,93])=true:=by rw [Zae];rfl
   have HTL:=Hd htl;clear hd hdrop he hk2 hm htl;generalize r.length=R at *;go_wp2
   go_round
   case rel=>exact ⟨r.take m,k+1,rfl,by go_num,HK2.out,HTL.out⟩
   case measure=>simp [intOf];omega
  | false=>
   have hkN2:k=N:=by have:=HK.out;rw [Zcz he] at this;omega
   by_cases h2:2<=r.length
   ·have hcut:=ZeM r (r.length - 2);have hdrop:r.drop (r.length - 2) ≠ [91,93]:=by
     unfold Zbh at he;simp at he
     exact he h2
    obtain ⟨m,hm⟩:∃ m,m=r.length - 2:=⟨_,rfl⟩
    rw [←hm] at hcut hdrop;have hm2:(r.length:Int) - 2=(m:Int):=by omega
    have hm3:(2:Int)<=(r.length:Int):=by omega
    have hm4:(0:Int)<=m:=by omega
    have hm5:(m:Int)<=(r.length:Int):=by omega
    have hq:((S (r.drop m)).toList == [91,93])=false:=by rw [Zae,beq_eq_false_iff_ne];exact hdrop
    have HKN:=Hd hkN2;clear hdrop he hm hkN2;generalize r.length=R at *;go_wp2;go_ret;exact ⟨ZgI (by rw [HKN.out]),rfl⟩
   ·have hm3:(r.length:Int)<2:=by omega
    have HKN:=Hd hkN2;clear he hkN2;go_wp2;go_ret;exact ⟨ZgI (by rw [HKN.out]),rfl⟩
theorem ZbF (l:List UInt8) (w:World) (hlim:l.length<=9223372036854775807) :
  Calls Tryz.prog 127 #[.string (S l)] w fun e w'=>e=.returned (.bool (Zak l))/\w=w':=by
 have HD:=Hd (ZdV l w hlim);have hsz:((S l).size:Int)=(l.length:Int):=by rw [Zaz]
 have hle:=Zdg l;have htk:=ZfD l (l.length - 2 * ZaO l);have hbl:(Zbc l).length<=9223372036854775807:=by rw [ZcN];omega
 have HP:=Hd (ZcS (Zbc l));have HC:=Hd (fun w=>Zcf (Zbc l) w hbl);have HR:=Hd (show Zak l=(decide (ZaO l<=3) && (ZaA (Zbc l) || Zal (Zbc l))) from rfl);rw [show l.take (l.length - 2 * ZaO l)=Zbc l from rfl] at htk;clear hbl;generalize ZaO l=N at *;obtain ⟨m,hm⟩:∃ m,m=l.length - 2 * N:=⟨_,rfl⟩
 rw [←hm] at htk;have hm2:(l.length:Int) - 2 * (N:Int)=(m:Int):=by omega
 have hm4:(0:Int)<=m:=by omega
 have hm5:(m:Int)<=(l.length:Int):=by omega
 clear hm;by_cases h3:N<=3
 ·have h3':(N:Int)<=3:=by omega
  rw [decide_eq_true h3,Bool.true_and] at HR;cases hp:ZaA (Zbc l) with
  | true=>
   rw [hp] at HP;rw [hp,Bool.true_or] at HR;clear hp;go_enter Tryz.func127,Tryz.ntmps127
   go_wp2_with fail
   refine HD.out.mono ?_;rintro e w' ⟨rfl,rfl⟩
   go_wp2_with fail
   refine (HP.out w).mono ?_;rintro e w' ⟨rfl,rfl⟩;go_wp2;go_ret;exact ⟨Zan HR.out.symm,rfl⟩
  | false=>
   rw [hp] at HP;rw [hp,Bool.false_or] at HR;clear hp;go_enter Tryz.func127,Tryz.ntmps127
   go_wp2_with fail
   refine HD.out.mono ?_;rintro e w' ⟨rfl,rfl⟩
   go_wp2_with fail
   refine (HP.out w).mono ?_;rintro e w' ⟨rfl,rfl⟩
   go_wp2_with fail
   refine (HC.out w).mono ?_;rintro e w' ⟨rfl,rfl⟩;go_wp2;go_ret;exact ⟨Zan HR.out.symm,rfl⟩
 ·have h3':(3:Int)<(N:Int):=by omega
  rw [decide_eq_false h3,Bool.false_and] at HR;go_enter Tryz.func127,Tryz.ntmps127
  go_wp2_with fail
  refine HD.out.mono ?_;rintro e w' ⟨rfl,rfl⟩;go_wp2;go_ret;exact ⟨Zan HR.out.symm,rfl⟩
theorem Zj9 (l:List UInt8) (w:World) (hlim:l.length<=9223372036854775807) :
  Calls Tryz.prog 201 #[.string (S l),.string ⟨#[91,93]⟩] w fun e w'=>e=.returned (.bool (Zbh l))/\w=w':=by
 have hsz:((S l).size:Int)=(l.length:Int):=by rw [Zaz]
 by_cases h2:2<=l.length
 ·obtain ⟨m,hm⟩:∃ m,m=l.length - 2:=⟨_,rfl⟩
  have hcut:=ZeM l m;have hm2:(l.length:Int) - 2=(m:Int):=by omega
  have hm3:(2:Int)<=(l.length:Int):=by omega
  have hm4:(0:Int)<=m:=by omega
  have hm5:(m:Int)<=(l.length:Int):=by omega
  have HE:=Hd (show Zbh l=((S (l.drop m)).toList == [91,93]) by rw [Zae,hm];unfold Zbh;rw [decide_eq_true h2,Bool.true_and,Bool.eq_iff_iff,decide_eq_true_eq,beq_iff_eq]);clear hm h2;generalize l.length=L at *;go_enter Tryz.func201,Tryz.ntmps201;go_wp2;go_ret;exact ⟨Zan HE.out.symm,rfl⟩
 ·have hm3:(l.length:Int)<2:=by omega
  have HE:=Hd (show Zbh l=false by unfold Zbh;rw [decide_eq_false h2,Bool.false_and]);clear h2;generalize l.length=L at *;go_enter Tryz.func201,Tryz.ntmps201;go_wp2;go_ret;exact ⟨Zan HE.out.symm,rfl⟩
theorem Zfv (l:List UInt8) (w:World) (hlim:l.length<=9223372036854775807) (he:Zbh l=true) :
  Calls Tryz.prog 145 #[.string (S l),.string ⟨#[91,93]⟩] w fun e w'=>e=.returned (.string (S (l.take (l.length - 2))))/\w=w':=by
 have hsz:((S l).size:Int)=(l.length:Int):=by rw [Zaz]
 have h2:=Zc5 he;obtain ⟨m,hm⟩:∃ m,m=l.length - 2:=⟨_,rfl⟩
 have hcut:=ZeM l m;have htk:=ZfD l m;have hm2:(l.length:Int) - 2=(m:Int):=by omega
 have hm3:(2:Int)<=(l.length:Int):=by omega
 have hm4:(0:Int)<=m:=by omega
 have hm5:(m:Int)<=(l.length:Int):=by omega
 have hdrop:l.drop m=[91,93]:=by
  unfold Zbh at he;simp at he
  rw [hm];exact he.2
 rw [hdrop] at hcut;have hq:((S [91,93]).toList == [91,93])=true:=by rw [Zae];rfl
 rw [←hm];clear hm h2 he hdrop;generalize l.length=L at *;go_enter Tryz.func145,Tryz.ntmps145;go_wp2;go_ret;exact ⟨rfl,rfl⟩
theorem ZqR:(Tryz.prog.info? 5).map (fun i=>(i.zero,i.size,i.bytes))=some (some (.int .u8 0),1,1):=by kernel_rfl
theorem ZaD (s:ByteArray) (w:World) (hlim:s.size<=281474976710656) :
  Calls Tryz.prog 63 #[.string s] w fun e w'=>e=.returned (.string s)/\Below w.heap.size w w':=by
 by_cases h0:s.size=0
 ·have hs:s=⟨#[]⟩:=by
   apply ByteArray.ext
   exact Array.eq_empty_of_size_eq_zero h0
  subst hs;go_enter Tryz.func63,Tryz.ntmps63;go_wp2;go_ret;exact ⟨rfl,Below.refl _ _⟩
 ·obtain ⟨i0,hi,hz0,hz1,hz2⟩:=info_parts ZqR;have hinfo:(Tryz.prog.info? 5).map (·.size)=some 1:=by rw [hi];simp [hz1]
  have hco:Tryz.prog.cellsOf 5=1:=by simp [Program.cellsOf,hi,hz1]
  obtain ⟨M,hM⟩:∃ M,M=madeCells (Value.int .u8 0).cells (((s.size:Nat):Int).toNat * i0.size):=⟨_,rfl⟩
  have hMs:M.size=s.size:=by rw [hM,size_madeCells,hz1];simp
  have hmk:∀ W:World,(Instr.makeSlice 169 (.int .i64 (s.size:Int)) (.int .i64 (s.size:Int))).run Tryz.prog W=.ok (.slice (some ⟨W.heap.size,0,none⟩) s.size s.size) (W.alloc (.cells M 5)):=fun W=>by
   have h:=run_make (P:=Tryz.prog) W 169 5 i0 (.int .u8 0) Tryz.underlying169 hi hz0 .i64 .i64 (s.size:Int) (s.size:Int) (by omega) (by omega) (by rw [hz2];omega) (by omega);rw [←hM] at h
   simpa using h
  clear hM;have hcp:=Lib.run_copy_row_string (P:=Tryz.prog) (w.alloc (.cells M 5)) 169 9 3 5 w.heap.size 0 s.size s.size s M 5 Tryz.underlying169 hinfo (heap_alloc_new w _) (Nat.le_refl _) (by omega);obtain ⟨Y,hY⟩:∃ Y,Y=(M.toList.take 0++Lib.byteCells s.data.toList++M.toList.drop (0+s.size)).toArray:=⟨_,rfl⟩
  rw [←hY] at hcp;have hYl:Y.toList=Lib.byteCells s.data.toList:=by
   rw [hY,List.toList_toArray,List.take_zero,List.nil_append,List.drop_of_length_le (by rw [Array.length_toList];omega),List.append_nil]
  have hYs:Y.size=s.size:=by rw [←Array.length_toList,hYl,Lib.byteCells_length,←Lib.size_eq]
  have hgY:((w.alloc (.cells M 5)).setRow w.heap.size Y).heap[w.heap.size]? = some (.cells Y 5 (0,0)):=setRow_heap _ _ M _ 5 (0,0) (heap_alloc_new w _);have hne:s.data.toList ≠ []:=fun e=>h0 (by rw [Lib.size_eq,e];rfl)
  have hUS:=Lib.run_unsafeString_row (P:=Tryz.prog) ((w.alloc (.cells M 5)).setRow w.heap.size Y) 170 3 9 5 Tryz.underlying170 hco w.heap.size Y.size (by unfold World.shape?;rw [hgY]) s.data.toList hne (by rw [←Lib.size_eq];omega) (by rw [←Lib.size_eq];omega)
   (fun j x hx=>Lib.cells_of_row hgY Y.size j _ (by rw [List.take_of_length_le (by rw [Array.length_toList];exact Nat.le_refl _),hYl];simp [Lib.byteCells,hx]))
  rw [←Lib.size_eq] at hUS;clear hY;go_enter Tryz.func63,Tryz.ntmps63;go_wp2;go_ret;have hb1:Below w.heap.size w (w.alloc (.cells M 5)):=(Below.refl _ w).alloc (Nat.le_refl _) _;have hb2:Below w.heap.size (w.alloc (.cells M 5)) ((w.alloc (.cells M 5)).setRow w.heap.size Y):=⟨rfl,rfl,rfl,by simp,fun k hk=>setRow_other _ _ _ _ (by omega)⟩;exact ⟨rfl,Lib.below_freeze (hb1.trans hb2) (p:=⟨w.heap.size,0,none⟩) (Nat.le_refl _) _⟩
theorem Zml (l:List UInt8):Lib.indexByte l 46=if ZaP l<l.length then (ZaP l:Int) else -1:=by
 unfold ZaP;induction l with
 | nil=>rfl
 | cons b l ih=>
  rw [Lib.indexByte,List.findIdx_cons,ih];cases hb:(b == 46) with
  | true=>simp
  | false=>
   have hle:List.findIdx (fun c=>c == 46) l<=l.length:=List.findIdx_le_length;simp only [Bool.false_eq_true,if_false,cond_false,List.length_cons];by_cases h:List.findIdx (fun c=>c == 46) l<l.length
   ·have h1:List.findIdx (fun c=>c == 46) l+1<l.length+1:=by omega
    rw [if_pos h,if_pos h1,if_neg (by simp)];omega
   ·have h1:¬ List.findIdx (fun c=>c == 46) l+1<l.length+1:=by omega
    rw [if_neg h,if_neg h1];rfl
theorem Zd7 (s:ByteArray) (c:Int) (w:World) :
  Calls Tryz.prog 268 #[.string s,.int .u8 c] w fun e w'=>e=.returned (.int .i64 (Lib.indexByte s.data.toList c.toNat.toUInt8))/\w=w':=by
 go_enter Tryz.func268,Tryz.ntmps268;go_wp2;rw [run_callFunc_extern Tryz.func275 (by kernel_rfl) (by kernel_rfl) (by kernel_rfl) (e:=Extern.BytealgIndexByte.indexByte) (by kernel_rfl),Lib.run_indexByteString];simp only [Result.andThen];rw [Oper.upon_value];go_wp2;go_ret;exact ⟨rfl,rfl⟩
theorem Zmm (s:ByteArray) (w:World) :
  Calls Tryz.prog 260 #[.string s,.string ⟨#[46]⟩] w fun e w'=>e=.returned (.int .i64 (Lib.indexByte s.data.toList 46))/\w=w':=by
 go_enter Tryz.func260,Tryz.ntmps260
 go_wp2_with (go_at_call 268;refine (Zd7 _ _ _).mono ?_;rintro e w' ⟨rfl,rfl⟩)
 ·have h:([46] == s.toList)=true:=by assumption
  go_ret;refine ⟨?_,rfl⟩;have e:s.data.toList=[46]:=by rw [←Lib.toList_data];exact (beq_iff_eq.1 h).symm
  rw [e];simp [Lib.indexByte]
 ·go_ret;exact ⟨rfl,rfl⟩
def Zqf (l:List UInt8) (w:World) (e:Ending) (w':World):Prop:=
 (∃ q,w'=w.drewN q)/\((ZaP l<l.length/\e=.returned (.tuple #[.string (S (l.take (ZaP l))),.string (S (l.drop (ZaP l+1))),.bool true]))\/
  (l.length<=ZaP l/\e=.returned (.tuple #[.string (S l),.string ⟨#[]⟩,.bool false])))
theorem Zim (l:List UInt8) (w:World) (hlim:l.length<=9223372036854775807) :
  Calls Tryz.prog 251 #[.string (S l),.string ⟨#[46]⟩] w (Zqf l w):=by
 have hix:=Zmm (S l) w;rw [Zjd,Zml] at hix;by_cases h:ZaP l<l.length
 ·rw [if_pos h] at hix;have HIX:=Hd hix;have hsz:((S l).size:Int)=(l.length:Int):=by rw [Zaz]
  have HL:=Hd h;obtain ⟨k,hk⟩:∃ k,k=ZaP l:=⟨_,rfl⟩
  rw [←hk] at h HIX;have HK:=Hd hk;have hcut1:=ZfD l k;have hcut2:=ZeM l (k+1);have w3:(0:Int)<=(k:Int)+1:=by omega
  have w4:(k:Int)+1<=(l.length:Int):=by omega
  have w5:(0:Int)<=(k:Int):=by omega
  have w6:(k:Int)<=(l.length:Int):=by omega
  have w2:((k:Int)+1).toNat=k+1:=by omega
  have w1:IntKind.i64.wrap ((k:Int)+1)=(k:Int)+1:=IntWalk.i64_in _ (by omega);clear hix hk h;go_enter Tryz.func251,Tryz.ntmps251
  go_wp2_with (go_at_call 260;refine HIX.out.mono ?_;rintro e w' ⟨rfl,rfl⟩)
  go_quiet (fail)
  go_wp2
  go_ret3;exact ⟨⟨nq,rfl⟩,.inl ⟨HL.out,by rw [←HK.out];rfl⟩⟩
 ·rw [if_neg h] at hix;have HIX:=Hd hix;have HL:=Hd (show l.length<=ZaP l by omega);clear hix h;go_enter Tryz.func251,Tryz.ntmps251
  go_wp2_with (go_at_call 260;refine HIX.out.mono ?_;rintro e w' ⟨rfl,rfl⟩)
  go_ret3;exact ⟨⟨0,rfl⟩,.inr ⟨HL.out,rfl⟩⟩
theorem ZpF (l:List UInt8) (w:World) (hlim:l.length<=9223372036854775807) :
  Calls Tryz.prog 232 #[.string (S l),.string ⟨#[46]⟩] w (Zqf l w):=by
 go_enter Tryz.func232,Tryz.ntmps232
 go_wp2_with fail
 refine (Zim l w hlim).mono ?_;rintro e w' ⟨hw,h⟩;have HW:=Hd hw;clear hw;rcases h with ⟨h,rfl⟩|⟨h,rfl⟩
 ·have HL:=Hd h;clear h;go_wp2
  go_ret3;exact ⟨HW.out,.inl ⟨HL.out,rfl⟩⟩
 ·have HL:=Hd h;clear h;go_wp2
  go_ret3;exact ⟨HW.out,.inr ⟨HL.out,rfl⟩⟩
def okP (p:Int->Bool) (i:Nat) (c:UInt8):Bool:=(decide (i ≠ 0) || p c.toNat) && (Zb6 c || Zdr c)
def Zfl (p:Int->Bool) (l:List UInt8) (k:Nat):Bool:=(List.range k).all fun i=>okP p i (l.getD i 0)
def ZcR (p:Int->Bool) (l:List UInt8):Bool:=Zfl p l l.length && (decide (1<=l.length) && decide (l.length<=32))
theorem Zcr (p:Int->Bool) (l:List UInt8) (k:Nat):Zfl p l (k+1)=(Zfl p l k && okP p k (l.getD k 0)):=by
 unfold Zfl;rw [List.range_succ,List.all_append];simp
theorem Zkw (p:Int->Bool) (l:List UInt8):Zfl p l 0=true:=by simp [Zfl]
theorem Za6 {p:Int->Bool} {l:List UInt8} {k:Nat} (hk:k<l.length) (h:okP p k (l.getD k 0)=false):ZcR p l=false:=by
 have h1:Zfl p l l.length=false:=by
  unfold Zfl;rw [List.all_eq_false];exact ⟨k,by simpa using hk,by rw [h];decide⟩
 unfold ZcR;rw [h1,Bool.false_and]
theorem ZiM {p:Int->Bool} {l:List UInt8} (h:32<l.length):ZcR p l=false:=by
 unfold ZcR;rw [decide_eq_false (show ¬ l.length<=32 by omega),Bool.and_false,Bool.and_false]
theorem ZiN (p:Int->Bool):ZcR p []=false:=by unfold ZcR;simp
def upI (r:Int):Bool:=decide (65<=r) && decide (r<=90)
def loI (r:Int):Bool:=decide (97<=r) && decide (r<=122)
def leI (r:Int):Bool:=upI r || loI r
theorem Zfi (p:Int->Bool) (q:UInt8->Bool) (l:List UInt8) (hq:∀ c:UInt8,(p c.toNat && (Zb6 c || Zdr c))=(Zb6 c && q c)):ZcR p l=(ZbH l && q (l.getD 0 0)):=by
 unfold ZcR ZbH;cases l with
 | nil=>simp
 | cons b t=>
  have h1:Zfl p (b :: t) (b :: t).length=(okTo (b :: t) (b :: t).length && q b):=by
   unfold Zfl okTo;rw [List.length_cons,List.range_succ_eq_map,List.all_cons,List.all_cons];have e0:okP p 0 ((b :: t).getD 0 0)=(okAt 0 ((b :: t).getD 0 0) && q b):=by
    show okP p 0 b=(okAt 0 b && q b)
    unfold okP okAt;have:=hq b;simp only [ne_eq,not_true_eq_false,decide_false,Bool.false_or,Bool.false_and,Bool.or_false];exact this
   have e1:((List.range t.length).map Nat.succ).all (fun i=>okP p i ((b :: t).getD i 0))=((List.range t.length).map Nat.succ).all (fun i=>okAt i ((b :: t).getD i 0)):=by
    rw [List.all_map,List.all_map];exact congrArg (fun f=>(List.range t.length).all f) (funext fun i=>by simp [okP,okAt])
   rw [e0,e1,Bool.and_assoc,Bool.and_assoc]
   congr 1
   exact Bool.and_comm _ _
  rw [h1];show _=(_ && q b)
  cases okTo (b :: t) (b :: t).length <;> cases q b <;> simp
theorem ZmY (l:List UInt8):ZcR upI l=Zal l:=by
 unfold Zal;rw [Zfi upI (fun c=>decide (c.toNat<=90)) l (fun c=>by
  unfold upI Zb6 Zdr;rw [Bool.eq_iff_iff];simp only [Bool.and_eq_true,Bool.or_eq_true,decide_eq_true_eq];omega)]
theorem ZmX (l:List UInt8):ZcR loI l=ZaB l:=by
 unfold ZaB;rw [Zfi loI (fun c=>decide (97<=c.toNat)) l (fun c=>by
  unfold loI Zb6 Zdr;rw [Bool.eq_iff_iff];simp only [Bool.and_eq_true,Bool.or_eq_true,decide_eq_true_eq];omega)]
theorem ZmW (l:List UInt8):ZcR leI l=ZbH l:=by
 rw [Zfi leI (fun _=>true) l (fun c=>by
  unfold leI upI loI Zb6 Zdr;rw [Bool.eq_iff_iff];simp only [Bool.and_eq_true,Bool.or_eq_true,decide_eq_true_eq,and_true];omega),Bool.and_true]
theorem Zp7 (l:List UInt8) (k:Nat) (hk:k<l.length) (h:k<(S l).size) :
  ((l.getD k 0).toNat<128/\Utf8.decode (S l) k=((l.getD k 0).toNat,1))\/
  (128<=(l.getD k 0).toNat/\128<=(Utf8.decode (S l) k).1/\(Utf8.decode (S l) k).1<=2147483647/\1<=(Utf8.decode (S l) k).2):=by
 have e:=S_at l k hk h;by_cases ha:(l.getD k 0).toNat<128
 ·exact .inl ⟨ha,by rw [decode_ascii (S l) k h (by rw [e];exact ha),e]⟩
 ·have:=decode_high (S l) k h (by rw [e];omega);exact .inr ⟨by omega,this.1,decode_le (S l) k,this.2⟩
theorem Zh2 (r:Int) (w:World):Calls Tryz.prog 206 #[.int .i32 r] w fun e w'=>e=.returned (.bool (upI r))/\w=w':=by
 unfold upI;by_cases h1:65<=r
 ·rw [decide_eq_true h1,Bool.true_and];go_enter Tryz.func206,Tryz.ntmps206;go_wp2;go_ret;exact ⟨rfl,rfl⟩
 ·rw [decide_eq_false h1,Bool.false_and];have h2:r<65:=by omega
  go_enter Tryz.func206,Tryz.ntmps206;go_wp2;go_ret;exact ⟨rfl,rfl⟩
theorem ZhF (r:Int) (w:World):Calls Tryz.prog 233 #[.int .i32 r] w fun e w'=>e=.returned (.bool (loI r))/\w=w':=by
 unfold loI;by_cases h1:97<=r
 ·rw [decide_eq_true h1,Bool.true_and];go_enter Tryz.func233,Tryz.ntmps233;go_wp2;go_ret;exact ⟨rfl,rfl⟩
 ·rw [decide_eq_false h1,Bool.false_and];have h2:r<97:=by omega
  go_enter Tryz.func233,Tryz.ntmps233;go_wp2;go_ret;exact ⟨rfl,rfl⟩
theorem Zkj (r:Int) (w:World):Calls Tryz.prog 238 #[.int .i32 r] w fun e w'=>e=.returned (.bool (leI r))/\w=w':=by
 have HU:=Hd (Zh2 r w);have HL:=Hd (ZhF r w);unfold leI;cases hu:upI r with
 | true=>
  rw [hu] at HU;rw [Bool.true_or];clear hu;go_enter Tryz.func238,Tryz.ntmps238
  go_wp2_with fail
  refine HU.out.mono ?_;rintro e w' ⟨rfl,rfl⟩;go_wp2;go_ret;exact ⟨rfl,rfl⟩
 | false=>
  rw [hu] at HU;rw [Bool.false_or];clear hu;go_enter Tryz.func238,Tryz.ntmps238
  go_wp2_with fail
  refine HU.out.mono ?_;rintro e w' ⟨rfl,rfl⟩
  go_wp2_with fail
  refine HL.out.mono ?_;rintro e w' ⟨rfl,rfl⟩;go_wp2;go_ret;exact ⟨rfl,rfl⟩
