/- laws -/
import Derived.Lib.VarintBits
import Derived.Laws.ShiftsVarLaws
import Derived.Lib.SliceRun
import Derived.Laws.BitsAllLaws
import Derived.Lib.Zigzag
import Derived.Test.YtggcdinoflchjaaGreatDoorK05
set_option maxRecDepth 100000
set_option maxHeartbeats 16000000
namespace Go.Proofs.YtggcdinoflchjaaGreatDoor
open Go.RowKit Go.Shelf

def Tabs (w:World):Prop:=Lib.Utf8Tabs (laysRen.g 3) (laysRen.g 4) w
theorem ZnR (s:List UInt8) (w:World) (hs:s.length<=9223372036854775807) (hT:Tabs w) :
  Calls Tryz.prog 263 #[.string (S s)] w fun e w'=>e=.returned (.bool (Lib.validD s))/\Below w.heap.size w w':=by
 have h:Calls Tryz.prog 263 #[.string (S s)] w _:=Any.utf8_ValidString Zhu (S s) w (by rw [Zaz];exact hs) hT;rw [Zjd] at h;exact h
end Go.Proofs.YtggcdinoflchjaaGreatDoor
namespace Go.Proofs.YtggcdinoflchjaaGreatDoor
open Go.RowKit
structure CT (w:World):Prop where
 tabs:Tabs w
 ops:OpTab w
theorem CT.keep {w w':World} (h:CT w) (hb:Below w.heap.size w w'):CT w':=⟨Utf8Tabs_below h.tabs hb,h.ops.keep hb⟩
theorem ZiC (s:ByteArray) (w:World) :
  Calls Tryz.prog 260 #[.string s,.string ⟨#[10]⟩] w fun e w'=>e=.returned (.int .i64 (Lib.indexByte s.data.toList 10))/\w=w':=by
 go_enter Tryz.func260,Tryz.ntmps260
 go_wp2_with (go_at_call 268;refine (Zd7 _ _ _).mono ?_;rintro e w' ⟨rfl,rfl⟩)
 ·have h:([10] == s.toList)=true:=by assumption
  go_ret;refine ⟨?_,rfl⟩;have e:s.data.toList=[10]:=by rw [←Lib.toList_data];exact (beq_iff_eq.1 h).symm
  rw [e];simp [Lib.indexByte]
 ·go_ret;exact ⟨rfl,rfl⟩
theorem Zgo (l:List UInt8) (c:UInt8):decide (0<=Lib.indexByte l c)=l.contains c:=by
 induction l with
 | nil=>rfl
 | cons b l ih=>
  have h1:=Lib.indexByte_ge l c;rw [Lib.indexByte,List.contains_cons,←ih];cases hb:(b == c) with
  | true=>
   have:(c == b)=true:=by rw [beq_iff_eq] at hb ⊢;exact hb.symm
   simp [this]
  | false=>
   have:(c == b)=false:=by rw [beq_eq_false_iff_ne] at hb ⊢;exact fun h=>hb h.symm
   rw [this,Bool.false_or];by_cases h:Lib.indexByte l c=-1
   ·simp [h]
   ·have h2:(Lib.indexByte l c == -1)=false:=by rw [beq_eq_false_iff_ne];exact h
    simp only [h2,Bool.false_eq_true,if_false];exact decide_eq_decide.2 (by omega)
theorem Zg3 (l:List UInt8) (w:World) :
  Calls Tryz.prog 264 #[.string (S l),.string ⟨#[10]⟩] w fun e w'=>e=.returned (.bool (l.contains 10))/\w=w':=by
 have HIX:=Hd (ZiC (S l) w);rw [←Zgo];generalize hz:Lib.indexByte l 10=z at HIX ⊢;rw [Zjd,hz] at HIX;clear hz;have hsi:Calls Tryz.prog 273 #[.string (S l),.string ⟨#[10]⟩] w fun e w'=>e=.returned (.int .i64 z)/\w=w':=by
  go_enter Tryz.func273,Tryz.ntmps273
  go_wp2_with (go_at_call 260;refine HIX.out.mono ?_;rintro e w' ⟨rfl,rfl⟩)
  go_ret;exact ⟨rfl,rfl⟩
 have HS:=Hd hsi;clear hsi HIX;go_enter Tryz.func264,Tryz.ntmps264
 go_wp2_with (go_at_call 273;refine HS.out.mono ?_;rintro e w' ⟨rfl,rfl⟩)
 go_ret;exact ⟨rfl,rfl⟩
def ZaW (h:Nat) (s:List UInt8):Bool:=
 if h=2 then decide (s.length<=64) && Lib.validD s && !s.contains 10
 else if h=3 then Zal s
 else if h=4 then Zal s || decide (0<depN s)
 else if h=5 then Zak s && decide (ZaO s<=2)
 else if h=6 then ZaU s
 else s == []
theorem ZjN (h:Nat) (l:List UInt8) (w:World) (hT:CT w) (hlim:l.length<=9223372036854775807) :
  Calls Tryz.prog 254 #[.int .i64 h,.string (S l)] w (Said (ZaW h l) w):=by
 have HT:=Hd hT;clear hT;unfold ZaW;by_cases h2:h=2
 ·subst h2;rw [if_pos rfl];have hsz:((S l).size:Int)=(l.length:Int):=by rw [Zaz]
  have HV:=Hd (ZnR l w (by omega) HT.out.tabs);have HC:Hid (∀ w,Calls Tryz.prog 264 #[.string (S l),.string ⟨#[10]⟩] w fun e w'=>e=.returned (.bool (l.contains 10))/\w=w'):=fun w=>Zg3 l w
  by_cases h64:l.length<=64
  ·have h64':(l.length:Int)<=64:=by omega
   rw [decide_eq_true h64,Bool.true_and];generalize Lib.validD l=v at HV ⊢;generalize l.contains 10=c at HC ⊢;go_enter Tryz.func254,Tryz.ntmps254;cases v
   ·go_wp2_with (first|(go_at_call 263;refine HV.out.mono ?_;rintro e w' ⟨rfl,hbv⟩)|(go_at_call 264;refine (HC.out _).mono ?_;rintro e w' ⟨rfl,rfl⟩))
    go_ret;exact ⟨rfl,hbv⟩
   ·go_wp2_with (first|(go_at_call 263;refine HV.out.mono ?_;rintro e w' ⟨rfl,hbv⟩)|(go_at_call 264;refine (HC.out _).mono ?_;rintro e w' ⟨rfl,rfl⟩))
    go_ret;exact ⟨rfl,hbv⟩
  ·have h64':(64:Int)<(l.length:Int):=by omega
   rw [decide_eq_false h64,Bool.false_and,Bool.false_and];go_enter Tryz.func254,Tryz.ntmps254;go_wp2;go_ret;exact ⟨rfl,Below.refl _ _⟩
 rw [if_neg h2];have e2:((h:Int) == 2)=false:=by rw [beq_eq_false_iff_ne];omega
 by_cases h3:h=3
 ·subst h3;rw [if_pos rfl];have HC:=Hd (ZbK l w hlim);generalize Zal l=c at HC ⊢;go_enter Tryz.func254,Tryz.ntmps254
  go_wp2_with (go_at_call 149;refine HC.out.mono ?_;rintro e w' ⟨rfl,hb⟩)
  go_ret;exact ⟨rfl,hb⟩
 rw [if_neg h3];have e3:((h:Int) == 3)=false:=by rw [beq_eq_false_iff_ne];omega
 by_cases h4:h=4
 ·subst h4;rw [if_pos rfl];have HC:=Hd (ZbK l w hlim);have HD:Hid (∀ w,Calls Tryz.prog 96 #[.string (S l)] w (Zia (depN l) w)):=fun w=>Zd2 l w hlim
  generalize Zal l=c at HC ⊢;generalize depN l=d at HD ⊢;go_enter Tryz.func254,Tryz.ntmps254;cases c
  ·go_wp2_with (first|(go_at_call 149;refine HC.out.mono ?_;rintro e w' ⟨rfl,hb⟩)|(go_at_call 96;refine (HD.out _).mono ?_;rintro e w'' ⟨rfl,hb2⟩))
   go_ret;refine ⟨?_,hb.trans (hb2.mono hb.size)⟩;rw [Bool.false_or];rfl
  ·go_wp2_with (first|(go_at_call 149;refine HC.out.mono ?_;rintro e w' ⟨rfl,hb⟩)|(go_at_call 96;refine (HD.out _).mono ?_;rintro e w'' ⟨rfl,hb2⟩))
   go_ret;exact ⟨rfl,hb⟩
 rw [if_neg h4];have e4:((h:Int) == 4)=false:=by rw [beq_eq_false_iff_ne];omega
 by_cases h5:h=5
 ·subst h5;rw [if_pos rfl];by_cases hr:Zak l=true/\ZaO l<=2
  ·rw [hr.1,decide_eq_true hr.2];have HO:=Hd (ZqE l w hlim hr.1 hr.2);clear hr;go_enter Tryz.func254,Tryz.ntmps254
   go_wp2_with (go_at_call 139;refine HO.out.mono ?_;rintro e w' ⟨rfl,hb⟩)
   go_ret;exact ⟨rfl,hb⟩
  ·have hf:(Zak l && decide (ZaO l<=2))=false:=by
    rw [Bool.eq_false_iff];intro hh;rw [Bool.and_eq_true,decide_eq_true_eq] at hh;exact hr hh
   rw [hf];have HO:=Hd (ZqU l w hlim hr);clear hr hf;go_enter Tryz.func254,Tryz.ntmps254
   go_wp2_with (go_at_call 139;refine HO.out.mono ?_;rintro e w' ⟨rfl,hb⟩)
   go_ret;exact ⟨rfl,hb⟩
 rw [if_neg h5];have e5:((h:Int) == 5)=false:=by rw [beq_eq_false_iff_ne];omega
 by_cases h6:h=6
 ·subst h6;rw [if_pos rfl];cases hp:ZaU l
  ·have HO:=Hd (ZoY l w hlim hp);clear hp;go_enter Tryz.func254,Tryz.ntmps254
   go_wp2_with (go_at_call 196;refine HO.out.mono ?_;rintro e w' ⟨rfl,hb⟩)
   go_ret;exact ⟨rfl,hb⟩
  ·have HO:=Hd (Znl l w hlim hp);clear hp;go_enter Tryz.func254,Tryz.ntmps254
   go_wp2_with (go_at_call 196;refine HO.out.mono ?_;rintro e w' ⟨rfl,hb⟩)
   go_ret;exact ⟨rfl,hb⟩
 rw [if_neg h6];have e6:((h:Int) == 6)=false:=by rw [beq_eq_false_iff_ne];omega
 have es:=Zae l;go_enter Tryz.func254,Tryz.ntmps254;go_wp2;go_ret;refine ⟨?_,Below.refl _ _⟩;show Ending.returned (.bool l.isEmpty)=.returned (.bool (l == []))
 cases l <;> rfl
def Za1 (op:List UInt8) (n:Int) (s:List UInt8):Nat:=
 if idx op<42 then (if Zbj (idx op) ≠ 1/\n ≠ 0 then 41 else if ZaW (Zbj (idx op)) s then 0 else 41) else 40
abbrev insV (op:List UInt8) (n:Int) (s:List UInt8):Value:=.agg #[.string (S op),.int .i64 n,.string (S s)]
theorem ZlH (op:List UInt8) (n:Int) (s:List UInt8) (w:World) (hT:CT w) (hlim:s.length<=9223372036854775807) :
  Calls Tryz.prog 241 #[insV op n s] w fun e w'=>e=.returned (.int .i64 (Za1 op n s:Nat))/\Below w.heap.size w w':=by
 have HT:=Hd hT;clear hT;go_enter Tryz.func241,Tryz.ntmps241
 go_wp2_with fail
 have hb0:Below w.heap.size w (w.alloc (.cells #[.string (S op),.int .i64 n,.string (S s)] 48)):=(Below.refl _ w).alloc (Nat.le_refl _) _;refine (ZjZ op _ (HT.out.ops.keep hb0)).mono ?_;rintro e w1 ⟨rfl,hb1⟩;have hi1:w1.heap[w.heap.size]? = some (.cells #[.string (S op),.int .i64 n,.string (S s)] 48 (0,0)):=(Only.ofBelow (S:=fun _=>False) hb1).heap (heap_alloc_new w _) id;have hbw:Below w.heap.size w w1:=hb0.trans (hb1.mono hb0.size);clear hb1 hb0;have hcN:w1.cell? ⟨w.heap.size,1,none⟩=some (.int .i64 n):=by simp [World.cell?,hi1]
 have hcS:w1.cell? ⟨w.heap.size,2,none⟩=some (.string (S s)):=by simp [World.cell?,hi1]
 have hsz:w.heap.size<w1.heap.size:=lt_of_block hi1;clear hi1;have hbA:∀ o:Obj,Below w.heap.size w (w1.alloc o):=fun o=>hbw.alloc hbw.size o
 unfold ZpU;generalize ZaJ (idx op)=nm;by_cases hN:idx op<42
 ·rw [if_pos hN,decide_eq_true hN];have hE:Za1 op n s=(if Zbj (idx op) ≠ 1/\n ≠ 0 then 41 else if ZaW (Zbj (idx op)) s then 0 else 41):=if_pos hN;generalize Zbj (idx op)=h at hE ⊢;generalize idx op=q;have HA:Hid (∀ o:Obj,Calls Tryz.prog 254 #[.int .i64 h,.string (S s)] (w1.alloc o) (Said (ZaW h s) (w1.alloc o))):=fun o=>ZjN h s _ (HT.out.keep (hbA o)) hlim
  generalize ZaW h s=ok at HA hE;have HB:=Hd hbA;clear hbA hbw hN;by_cases h1:h=1
  ·subst h1;rw [if_neg (by simp)] at hE;cases ok
   ·have HE:=Hd hE;clear hE
    go_wp2_with (go_at_call 254;refine (HA.out _).mono ?_;rintro e w' ⟨rfl,hb⟩)
    go_ret;exact ⟨by rw [HE.out];rfl,(HB.out _).trans (hb.mono (HB.out _).size)⟩
   ·have HE:=Hd hE;clear hE
    go_wp2_with (go_at_call 254;refine (HA.out _).mono ?_;rintro e w' ⟨rfl,hb⟩)
    go_ret;exact ⟨by rw [HE.out];rfl,(HB.out _).trans (hb.mono (HB.out _).size)⟩
  ·have e1:((h:Int) == 1)=false:=by rw [beq_eq_false_iff_ne];omega
   have e1':((h:Int) != 1)=true:=by rw [bne_iff_ne];omega
   by_cases hn:n=0
   ·subst hn;rw [if_neg (by simp)] at hE;cases ok
    ·have HE:=Hd hE;clear hE
     go_wp2_with (go_at_call 254;refine (HA.out _).mono ?_;rintro e w' ⟨rfl,hb⟩)
     go_ret;exact ⟨by rw [HE.out];rfl,(HB.out _).trans (hb.mono (HB.out _).size)⟩
    ·have HE:=Hd hE;clear hE
     go_wp2_with (go_at_call 254;refine (HA.out _).mono ?_;rintro e w' ⟨rfl,hb⟩)
     go_ret;exact ⟨by rw [HE.out];rfl,(HB.out _).trans (hb.mono (HB.out _).size)⟩
   ·rw [if_pos ⟨h1,hn⟩] at hE;have HE:=Hd hE;clear hE;have e2:(n != 0)=true:=by rw [bne_iff_ne];exact hn
    go_wp2;go_ret;exact ⟨by rw [HE.out];rfl,HB.out _⟩
 ·have HE:Hid (Za1 op n s=40):=Hd (if_neg hN);rw [if_neg hN,decide_eq_false hN];generalize Zbj (idx op)=h;have HB:=Hd hbA;clear hbA hbw hN;go_wp2;go_ret;exact ⟨by rw [HE.out];rfl,HB.out _⟩
structure Ins where
 op:List UInt8
 n:Int
 s:List UInt8
def Ins.e (x:Ins):Nat:=Za1 x.op x.n x.s
def allE:List Ins->Nat
 | []=>0
 | x :: l=>if x.e=0 then allE l else x.e
def Zph (w:World) (sv:Value) (l:List Ins):Prop:=
 (∃ ao cap,sv=.slice ao 0 cap/\l=[])\/∃ b o cap,sv=.slice (some ⟨b,o,none⟩) l.length cap/\
  ∀ k x,l[k]? = some x->w.cell? ⟨b,o+k * 3,none⟩=some (.string (S x.op))/\w.cell? ⟨b,o+k * 3+1,none⟩=some (.int .i64 x.n)/\w.cell? ⟨b,o+k * 3+2,none⟩=some (.string (S x.s))
theorem ZlB (l:List Ins) (k:Nat) (x:Ins) (h:l[k]? = some x):allE (l.drop k)=if x.e=0 then allE (l.drop (k+1)) else x.e:=by
 have hl:k<l.length:=by
  rcases Nat.lt_or_ge k l.length with h1|h1
  ·exact h1
  ·rw [List.getElem?_eq_none h1] at h;cases h
 rw [List.getElem?_eq_getElem hl] at h;rw [List.drop_eq_getElem_cons hl,Option.some.inj h];rfl
structure Mth where
 name:List UInt8
 params:List (List UInt8)
 res:List UInt8
 abs:Bool
 loc:Int
 code:List Ins
 cats:List Cat
structure Cls where
 name:List UInt8
 sup:List UInt8
 like:List (List UInt8)
 itf:Bool
 abs:Bool
 fin:Bool
 flds:List Fld
 mths:List Mth
abbrev Zho (x:Ins):Value:=.agg #[.string (S x.op),.int .i64 x.n,.string (S x.s)]
abbrev InsR:Zao Ins:=Flat Zho
def MthR:Zao Mth:=fun A w m v=>∃ pv cv kv,v=.agg #[.string (S m.name),pv,.string (S m.res),.bool m.abs,.int .i64 m.loc,cv,kv]/\Src 1 StrR A w pv m.params/\Src 3 InsR A w cv m.code/\Src 4 CatR A w kv m.cats
theorem Zam {A:Nat->Prop} {w:World} {m:Mth} {v:Value} (h:MthR A w m v):∃ pv cv kv,v=.agg #[.string (S m.name),pv,.string (S m.res),.bool m.abs,.int .i64 m.loc,cv,kv]/\(∃ po pc,pv=.slice po m.params.length pc)/\(∃ co cc,cv=.slice co m.code.length cc)/\∃ ko kc,kv=.slice ko m.cats.length kc:=by
 obtain ⟨pv,cv,kv,rfl,h1,h2,h3⟩:=h;exact ⟨pv,cv,kv,rfl,h1.shape,h2.shape,h3.shape⟩
def ClsR:Zao Cls:=fun A w c v=>∃ lv fv mv,v=.agg #[.string (S c.name),.string (S c.sup),lv,.bool c.itf,.bool c.abs,.bool c.fin,fv,mv]/\Src 1 StrR A w lv c.like/\Src 3 FldR A w fv c.flds/\Src 7 MthR A w mv c.mths
theorem InsR.st:Stays InsR:=Flat.stays _
theorem MthR.st:Stays MthR:=
 ⟨fun ⟨pv,cv,kv,he,h1,h2,h3⟩ ho hA=>⟨pv,cv,kv,he,StrR.st.src h1 ho hA,InsR.st.src h2 ho hA,CatR.st.src h3 ho hA⟩,
  fun ⟨pv,cv,kv,he,h1,h2,h3⟩ hA=>⟨pv,cv,kv,he,StrR.st.srcMono h1 hA,InsR.st.srcMono h2 hA,CatR.st.srcMono h3 hA⟩⟩
theorem ClsR.st:Stays ClsR:=
 ⟨fun ⟨pv,cv,kv,he,h1,h2,h3⟩ ho hA=>⟨pv,cv,kv,he,StrR.st.src h1 ho hA,FldR.st.src h2 ho hA,MthR.st.src h3 ho hA⟩,
  fun ⟨pv,cv,kv,he,h1,h2,h3⟩ hA=>⟨pv,cv,kv,he,StrR.st.srcMono h1 hA,FldR.st.srcMono h2 hA,MthR.st.srcMono h3 hA⟩⟩
theorem Zmy {A:Nat->Prop} {w:World} {sv:Value} {l:List Ins} (h:Src 3 InsR A w sv l):Zph w sv l:=by
 rcases h with ⟨ao,cap,rfl,rfl⟩|⟨b,o,cap,rfl,_,hc⟩
 ·exact .inl ⟨ao,cap,rfl,rfl⟩
 ·refine .inr ⟨b,o,cap,rfl,fun k x hx=>?_⟩;obtain ⟨v,rfl,_,h3⟩:=hc k x hx;exact ⟨h3 0 _ rfl,h3 1 _ rfl,h3 2 _ rfl⟩
/-! What a class may be. -/
def Mth.many (m:Mth):Bool:=decide (32<m.params.length) || (decide (32<m.cats.length) || (decide (200<m.code.length) || decide (64<m.loc)))
def Cls.many (c:Cls):Bool:=decide (32<c.like.length) || (decide (32<c.flds.length) || (decide (32<c.mths.length) || c.mths.any Mth.many))
def memB (l:List UInt8):Bool:=ZbH l && !Zal l
def Fld.ok (f:Fld):Bool:=memB f.name && Zak f.kind
def Cat.ok (n:Nat) (c:Cat):Bool:=decide (0<=c.fr) && (decide (c.fr<c.till) && (decide (c.till<=(n:Int)) && (decide (0<=c.at_) && (decide (c.at_<(n:Int)) && Zal c.cls))))
def Ins.fine (x:Ins):Bool:=x.e == 0
def Mth.body (m:Mth):Bool:=
 if m.abs then decide (m.loc=0) && (decide (m.code.length=0) && decide (m.cats.length=0))
 else decide ((m.params.length:Int)<m.loc) && (decide (0<m.code.length) && (m.code.all Ins.fine && m.cats.all (Cat.ok m.code.length)))
def Mth.ok (m:Mth):Bool:=memB m.name && (m.params.all Zak && ((decide (m.res=[]) || Zak m.res) && m.body))
def Cls.names (c:Cls):Bool:=Zal c.name && ((c.sup :: c.like).all Zal && ((!(c.sup :: c.like).any (fun y=>y == c.name)) && (Zbz c.like && (Zbz (c.flds.map Fld.name) && Zbz (c.mths.map Mth.name)))))
def objL:List UInt8:=[79,98,106,101,99,116]
def Cls.sort (c:Cls):Bool:=
 if (c.abs && c.fin)=true then false else if (!c.abs && c.mths.any Mth.abs)=true then false
 else if c.itf then c.abs && (decide (c.sup=objL) && (decide (c.flds.length=0) && c.mths.all Mth.abs)) else true
def Cls.fine (c:Cls):Bool:=c.names && (c.sort && (c.flds.all Fld.ok && c.mths.all Mth.ok))
def Cls.e (c:Cls):Nat:=if c.many then 51 else if c.fine then 0 else 50
