/- laws -/
import Derived.Lib.VarintBits
import Derived.Laws.ShiftsVarLaws
import Derived.Lib.SliceRun
import Derived.Laws.BitsAllLaws
import Derived.Lib.Zigzag
import Derived.Test.YtggcdinoflchjaaGreatDoorK05
set_option maxRecDepth 100000
set_option maxHeartbeats 16000000
namespace Go.Proofs.YtggcdinoflchjaaGreatDoor
open Go.RowKit Go.Shelf

def Tabs (w:World):Prop:=Lib.Utf8Tabs (laysRen.g 3) (laysRen.g 4) w
theorem Zoq (s:List UInt8) (w:World) (hs:s.length<=9223372036854775807) (hT:Tabs w) :
  Calls Tryz.prog 263 #[.string (S s)] w fun e w'=>e=.returned (.bool (Lib.validD s))/\Below w.heap.size w w':=by
 have h:Calls Tryz.prog 263 #[.string (S s)] w _:=Any.utf8_ValidString ZhZ (S s) w (by rw [ZaB];exact hs) hT;rw [ZjH] at h;exact h
end Go.Proofs.YtggcdinoflchjaaGreatDoor
namespace Go.Proofs.YtggcdinoflchjaaGreatDoor
open Go.RowKit
structure CT (w:World):Prop where
 tabs:Tabs w
 ops:OpTab w
theorem CT.keep {w w':World} (h:CT w) (hb:Below w.heap.size w w'):CT w':=⟨Utf8Tabs_below h.tabs hb,h.ops.keep hb⟩
theorem Zi5 (s:ByteArray) (w:World) :
  Calls Tryz.prog 260 #[.string s,.string ⟨#[10]⟩] w fun e w'=>e=.returned (.int .i64 (Lib.indexByte s.data.toList 10))/\w=w':=by
 go_enter Tryz.func260,Tryz.ntmps260
 go_wp2_with (go_at_call 268;refine (Zeq _ _ _).mono ?_;rintro e w' ⟨rfl,rfl⟩)
 ·have h:([10] == s.toList)=true:=by assumption
  go_ret;refine ⟨?_,rfl⟩;have e:s.data.toList=[10]:=by rw [←Lib.toList_data];exact (beq_iff_eq.1 h).symm
  rw [e];simp [Lib.indexByte]
 ·go_ret;exact ⟨rfl,rfl⟩
theorem ZgV (l:List UInt8) (c:UInt8):decide (0<=Lib.indexByte l c)=l.contains c:=by
 induction l with
 | nil=>rfl
 | cons b l ih=>
  have h1:=Lib.indexByte_ge l c;rw [Lib.indexByte,List.contains_cons,←ih];cases hb:(b == c) with
  | true=>
   have:(c == b)=true:=by rw [beq_iff_eq] at hb ⊢;exact hb.symm
   simp [this]
  | false=>
   have:(c == b)=false:=by rw [Yah] at hb ⊢;exact fun h=>hb h.symm
   rw [this,YaR];by_cases h:Lib.indexByte l c=-1
   ·simp [h]
   ·have h2:(Lib.indexByte l c == -1)=false:=by rw [Yah];exact h
    simp only [h2,YbR,if_false];exact decide_eq_decide.2 (by omega)
theorem Zhz (l:List UInt8) (w:World) :
  Calls Tryz.prog 264 #[.string (S l),.string ⟨#[10]⟩] w fun e w'=>e=.returned (.bool (l.contains 10))/\w=w':=by
 have HIX:=Hd (Zi5 (S l) w);rw [←ZgV];generalize hz:Lib.indexByte l 10=z at HIX ⊢;rw [ZjH,hz] at HIX;clear hz;have hsi:Calls Tryz.prog 273 #[.string (S l),.string ⟨#[10]⟩] w fun e w'=>e=.returned (.int .i64 z)/\w=w':=by
  go_enter Tryz.func273,Tryz.ntmps273
  go_wp2_with (go_at_call 260;refine HIX.o.mono ?_;rintro e w' ⟨rfl,rfl⟩)
  go_ret;exact ⟨rfl,rfl⟩
 have HS:=Hd hsi;clear hsi HIX;go_enter Tryz.func264,Tryz.ntmps264
 go_wp2_with (go_at_call 273;refine HS.o.mono ?_;rintro e w' ⟨rfl,rfl⟩)
 go_ret;exact ⟨rfl,rfl⟩
def Za5 (h:Nat) (s:List UInt8):Bool:=
 if h=2 then decide (s.length<=64) && Lib.validD s && !s.contains 10
 else if h=3 then Zak s
 else if h=4 then Zak s || decide (0<depN s)
 else if h=5 then Zaj s && decide (ZaV s<=2)
 else if h=6 then Za3 s
 else s == []
theorem Zkg (h:Nat) (l:List UInt8) (w:World) (hT:CT w) (hlim:l.length<=9223372036854775807) :
  Calls Tryz.prog 254 #[.int .i64 h,.string (S l)] w (Said (Za5 h l) w):=by
 have HT:=Hd hT;clear hT;unfold Za5;by_cases h2:h=2
 ·subst h2;rw [YaA rfl];have hsz:((S l).size:Int)=(l.length:Int):=by rw [ZaB]
  have HV:=Hd (Zoq l w (by omega) HT.o.tabs);have HC:Hid (∀ w,Calls Tryz.prog 264 #[.string (S l),.string ⟨#[10]⟩] w fun e w'=>e=.returned (.bool (l.contains 10))/\w=w'):=fun w=>Zhz l w
  by_cases h64:l.length<=64
  ·have h64':(l.length:Int)<=64:=by omega
   rw [Yar h64,Yax];generalize Lib.validD l=v at HV ⊢;generalize l.contains 10=c at HC ⊢;go_enter Tryz.func254,Tryz.ntmps254;cases v
   ·go_wp2_with (first|(go_at_call 263;refine HV.o.mono ?_;rintro e w' ⟨rfl,hbv⟩)|(go_at_call 264;refine (HC.o _).mono ?_;rintro e w' ⟨rfl,rfl⟩))
    go_ret;exact ⟨rfl,hbv⟩
   ·go_wp2_with (first|(go_at_call 263;refine HV.o.mono ?_;rintro e w' ⟨rfl,hbv⟩)|(go_at_call 264;refine (HC.o _).mono ?_;rintro e w' ⟨rfl,rfl⟩))
    go_ret;exact ⟨rfl,hbv⟩
  ·have h64':(64:Int)<(l.length:Int):=by omega
   rw [Yaj h64,YaD,YaD];go_enter Tryz.func254,Tryz.ntmps254;go_wp2;go_ret;exact ⟨rfl,Yab _ _⟩
 rw [Yaq h2];have e2:((h:Int) == 2)=false:=by rw [Yah];omega
 by_cases h3:h=3
 ·subst h3;rw [YaA rfl];have HC:=Hd (ZbZ l w hlim);generalize Zak l=c at HC ⊢;go_enter Tryz.func254,Tryz.ntmps254
  go_wp2_with (go_at_call 149;refine HC.o.mono ?_;rintro e w' ⟨rfl,hb⟩)
  go_ret;exact ⟨rfl,hb⟩
 rw [Yaq h3];have e3:((h:Int) == 3)=false:=by rw [Yah];omega
 by_cases h4:h=4
 ·subst h4;rw [YaA rfl];have HC:=Hd (ZbZ l w hlim);have HD:Hid (∀ w,Calls Tryz.prog 96 #[.string (S l)] w (ZiE (depN l) w)):=fun w=>Zek l w hlim
  generalize Zak l=c at HC ⊢;generalize depN l=d at HD ⊢;go_enter Tryz.func254,Tryz.ntmps254;cases c
  ·go_wp2_with (first|(go_at_call 149;refine HC.o.mono ?_;rintro e w' ⟨rfl,hb⟩)|(go_at_call 96;refine (HD.o _).mono ?_;rintro e w'' ⟨rfl,hb2⟩))
   go_ret;refine ⟨?_,hb.trans (hb2.mono hb.size)⟩;rw [YaR];rfl
  ·go_wp2_with (first|(go_at_call 149;refine HC.o.mono ?_;rintro e w' ⟨rfl,hb⟩)|(go_at_call 96;refine (HD.o _).mono ?_;rintro e w'' ⟨rfl,hb2⟩))
   go_ret;exact ⟨rfl,hb⟩
 rw [Yaq h4];have e4:((h:Int) == 4)=false:=by rw [Yah];omega
 by_cases h5:h=5
 ·subst h5;rw [YaA rfl];by_cases hr:Zaj l=true/\ZaV l<=2
  ·rw [hr.1,Yar hr.2];have HO:=Hd (Zrd l w hlim hr.1 hr.2);clear hr;go_enter Tryz.func254,Tryz.ntmps254
   go_wp2_with (go_at_call 139;refine HO.o.mono ?_;rintro e w' ⟨rfl,hb⟩)
   go_ret;exact ⟨rfl,hb⟩
  ·have hf:(Zaj l && decide (ZaV l<=2))=false:=by
    rw [Yb7];intro hh;rw [Yat,YaO] at hh;exact hr hh
   rw [hf];have HO:=Hd (Zrt l w hlim hr);clear hr hf;go_enter Tryz.func254,Tryz.ntmps254
   go_wp2_with (go_at_call 139;refine HO.o.mono ?_;rintro e w' ⟨rfl,hb⟩)
   go_ret;exact ⟨rfl,hb⟩
 rw [Yaq h5];have e5:((h:Int) == 5)=false:=by rw [Yah];omega
 by_cases h6:h=6
 ·subst h6;rw [YaA rfl];cases hp:Za3 l
  ·have HO:=Hd (Zpy l w hlim hp);clear hp;go_enter Tryz.func254,Tryz.ntmps254
   go_wp2_with (go_at_call 196;refine HO.o.mono ?_;rintro e w' ⟨rfl,hb⟩)
   go_ret;exact ⟨rfl,hb⟩
  ·have HO:=Hd (ZnW l w hlim hp);clear hp;go_enter Tryz.func254,Tryz.ntmps254
   go_wp2_with (go_at_call 196;refine HO.o.mono ?_;rintro e w' ⟨rfl,hb⟩)
   go_ret;exact ⟨rfl,hb⟩
 rw [Yaq h6];have e6:((h:Int) == 6)=false:=by rw [Yah];omega
 have es:=Zae l;go_enter Tryz.func254,Tryz.ntmps254;go_wp2;go_ret;refine ⟨?_,Yab _ _⟩;show Ending.returned (.bool l.isEmpty)=.returned (.bool (l == []))
 cases l <;> rfl
def Zbb (op:List UInt8) (n:Int) (s:List UInt8):Nat:=
 if idx op<42 then (if Zbv (idx op) ≠ 1/\n ≠ 0 then 41 else if Za5 (Zbv (idx op)) s then 0 else 41) else 40
abbrev insV (op:List UInt8) (n:Int) (s:List UInt8):Value:=.agg #[.string (S op),.int .i64 n,.string (S s)]
theorem Zme (op:List UInt8) (n:Int) (s:List UInt8) (w:World) (hT:CT w) (hlim:s.length<=9223372036854775807) :
  Calls Tryz.prog 241 #[insV op n s] w fun e w'=>e=.returned (.int .i64 (Zbb op n s:Nat))/\Below w.heap.size w w':=by
 have HT:=Hd hT;clear hT;go_enter Tryz.func241,Tryz.ntmps241
 go_wp2_with fail
 have hb0:Below w.heap.size w (w.alloc (.cells #[.string (S op),.int .i64 n,.string (S s)] 48)):=(Yab _ w).alloc (Yac _) _;refine (Zkt op _ (HT.o.ops.keep hb0)).mono ?_;rintro e w1 ⟨rfl,hb1⟩;have hi1:w1.heap[w.heap.size]? = some (.cells #[.string (S op),.int .i64 n,.string (S s)] 48 (0,0)):=(Yaf (S:=fun _=>False) hb1).heap (heap_alloc_new w _) id;have hbw:Below w.heap.size w w1:=hb0.trans (hb1.mono hb0.size);clear hb1 hb0;have hcN:w1.cell? ⟨w.heap.size,1,none⟩=some (.int .i64 n):=by simp [World.cell?,hi1]
 have hcS:w1.cell? ⟨w.heap.size,2,none⟩=some (.string (S s)):=by simp [World.cell?,hi1]
 have hsz:w.heap.size<w1.heap.size:=lt_of_block hi1;clear hi1;have hbA:∀ o:Obj,Below w.heap.size w (w1.alloc o):=fun o=>hbw.alloc hbw.size o
 unfold Zqr;generalize ZaM (idx op)=nm;by_cases hN:idx op<42
 ·rw [YaA hN,Yar hN];have hE:Zbb op n s=(if Zbv (idx op) ≠ 1/\n ≠ 0 then 41 else if Za5 (Zbv (idx op)) s then 0 else 41):=YaA hN;generalize Zbv (idx op)=h at hE ⊢;generalize idx op=q;have HA:Hid (∀ o:Obj,Calls Tryz.prog 254 #[.int .i64 h,.string (S s)] (w1.alloc o) (Said (Za5 h s) (w1.alloc o))):=fun o=>Zkg h s _ (HT.o.keep (hbA o)) hlim
  generalize Za5 h s=ok at HA hE;have HB:=Hd hbA;clear hbA hbw hN;by_cases h1:h=1
  ·subst h1;rw [Yaq (by simp)] at hE;cases ok
   ·have HE:=Hd hE;clear hE
    go_wp2_with (go_at_call 254;refine (HA.o _).mono ?_;rintro e w' ⟨rfl,hb⟩)
    go_ret;exact ⟨by rw [HE.o];rfl,(HB.o _).trans (hb.mono (HB.o _).size)⟩
   ·have HE:=Hd hE;clear hE
    go_wp2_with (go_at_call 254;refine (HA.o _).mono ?_;rintro e w' ⟨rfl,hb⟩)
    go_ret;exact ⟨by rw [HE.o];rfl,(HB.o _).trans (hb.mono (HB.o _).size)⟩
  ·have e1:((h:Int) == 1)=false:=by rw [Yah];omega
   have e1':((h:Int) != 1)=true:=by rw [bne_iff_ne];omega
   by_cases hn:n=0
   ·subst hn;rw [Yaq (by simp)] at hE;cases ok
    ·have HE:=Hd hE;clear hE
     go_wp2_with (go_at_call 254;refine (HA.o _).mono ?_;rintro e w' ⟨rfl,hb⟩)
     go_ret;exact ⟨by rw [HE.o];rfl,(HB.o _).trans (hb.mono (HB.o _).size)⟩
    ·have HE:=Hd hE;clear hE
     go_wp2_with (go_at_call 254;refine (HA.o _).mono ?_;rintro e w' ⟨rfl,hb⟩)
     go_ret;exact ⟨by rw [HE.o];rfl,(HB.o _).trans (hb.mono (HB.o _).size)⟩
   ·rw [YaA ⟨h1,hn⟩] at hE;have HE:=Hd hE;clear hE;have e2:(n != 0)=true:=by rw [bne_iff_ne];exact hn
    go_wp2;go_ret;exact ⟨by rw [HE.o];rfl,HB.o _⟩
 ·have HE:Hid (Zbb op n s=40):=Hd (Yaq hN);rw [Yaq hN,Yaj hN];generalize Zbv (idx op)=h;have HB:=Hd hbA;clear hbA hbw hN;go_wp2;go_ret;exact ⟨by rw [HE.o];rfl,HB.o _⟩
structure Ins where
 op:List UInt8
 n:Int
 s:List UInt8
def Ins.e (x:Ins):Nat:=Zbb x.op x.n x.s
def allE:List Ins->Nat
 | []=>0
 | x :: l=>if x.e=0 then allE l else x.e
def ZpQ (w:World) (sv:Value) (l:List Ins):Prop:=
 (∃ ao cap,sv=.slice ao 0 cap/\l=[])\/∃ b o cap,sv=.slice (some ⟨b,o,none⟩) l.length cap/\
  ∀ k x,l[k]? = some x->w.cell? ⟨b,o+k * 3,none⟩=some (.string (S x.op))/\w.cell? ⟨b,o+k * 3+1,none⟩=some (.int .i64 x.n)/\w.cell? ⟨b,o+k * 3+2,none⟩=some (.string (S x.s))
theorem Zl5 (l:List Ins) (k:Nat) (x:Ins) (h:l[k]? = some x):allE (l.drop k)=if x.e=0 then allE (l.drop (k+1)) else x.e:=by
 have hl:k<l.length:=by
  rcases YaE k l.length with h1|h1
  ·exact h1
  ·rw [YaT h1] at h;cases h
 rw [Yaa hl] at h;rw [YbJ hl,Yae h];rfl
structure Mth where
 name:List UInt8
 params:List (List UInt8)
 res:List UInt8
 abs:Bool
 loc:Int
 code:List Ins
 cats:List Cat
structure Cls where
 name:List UInt8
 sup:List UInt8
 like:List (List UInt8)
 itf:Bool
 abs:Bool
 fin:Bool
 flds:List Fld
 mths:List Mth
abbrev ZjQ (x:Ins):Value:=.agg #[.string (S x.op),.int .i64 x.n,.string (S x.s)]
abbrev InsR:Zaq Ins:=Flat ZjQ
def MthR:Zaq Mth:=fun A w m v=>∃ pv cv kv,v=.agg #[.string (S m.name),pv,.string (S m.res),.bool m.abs,.int .i64 m.loc,cv,kv]/\Src 1 StrR A w pv m.params/\Src 3 InsR A w cv m.code/\Src 4 CatR A w kv m.cats
theorem Zan {A:Nat->Prop} {w:World} {m:Mth} {v:Value} (h:MthR A w m v):∃ pv cv kv,v=.agg #[.string (S m.name),pv,.string (S m.res),.bool m.abs,.int .i64 m.loc,cv,kv]/\(∃ po pc,pv=.slice po m.params.length pc)/\(∃ co cc,cv=.slice co m.code.length cc)/\∃ ko kc,kv=.slice ko m.cats.length kc:=by
 obtain ⟨pv,cv,kv,rfl,h1,h2,h3⟩:=h;exact ⟨pv,cv,kv,rfl,h1.shape,h2.shape,h3.shape⟩
def ClsR:Zaq Cls:=fun A w c v=>∃ lv fv mv,v=.agg #[.string (S c.name),.string (S c.sup),lv,.bool c.itf,.bool c.abs,.bool c.fin,fv,mv]/\Src 1 StrR A w lv c.like/\Src 3 FldR A w fv c.flds/\Src 7 MthR A w mv c.mths
theorem InsR.st:Stays InsR:=Flat.stays _
theorem MthR.st:Stays MthR:=
 ⟨fun ⟨pv,cv,kv,he,h1,h2,h3⟩ ho hA=>⟨pv,cv,kv,he,StrR.st.src h1 ho hA,InsR.st.src h2 ho hA,CatR.st.src h3 ho hA⟩,
  fun ⟨pv,cv,kv,he,h1,h2,h3⟩ hA=>⟨pv,cv,kv,he,StrR.st.srcMono h1 hA,InsR.st.srcMono h2 hA,CatR.st.srcMono h3 hA⟩⟩
theorem ClsR.st:Stays ClsR:=
 ⟨fun ⟨pv,cv,kv,he,h1,h2,h3⟩ ho hA=>⟨pv,cv,kv,he,StrR.st.src h1 ho hA,FldR.st.src h2 ho hA,MthR.st.src h3 ho hA⟩,
  fun ⟨pv,cv,kv,he,h1,h2,h3⟩ hA=>⟨pv,cv,kv,he,StrR.st.srcMono h1 hA,FldR.st.srcMono h2 hA,MthR.st.srcMono h3 hA⟩⟩
theorem Zm6 {A:Nat->Prop} {w:World} {sv:Value} {l:List Ins} (h:Src 3 InsR A w sv l):ZpQ w sv l:=by
 rcases h with ⟨ao,cap,rfl,rfl⟩|⟨b,o,cap,rfl,_,hc⟩
 ·exact .inl ⟨ao,cap,rfl,rfl⟩
 ·refine .inr ⟨b,o,cap,rfl,fun k x hx=>?_⟩;obtain ⟨v,rfl,_,h3⟩:=hc k x hx;exact ⟨h3 0 _ rfl,h3 1 _ rfl,h3 2 _ rfl⟩
/-! What a class may be. -/
def Mth.many (m:Mth):Bool:=decide (32<m.params.length) || (decide (32<m.cats.length) || (decide (200<m.code.length) || decide (64<m.loc)))
def Cls.many (c:Cls):Bool:=decide (32<c.like.length) || (decide (32<c.flds.length) || (decide (32<c.mths.length) || c.mths.any Mth.many))
def memB (l:List UInt8):Bool:=ZbN l && !Zak l
def Fld.ok (f:Fld):Bool:=memB f.name && Zaj f.kind
def Cat.ok (n:Nat) (c:Cat):Bool:=decide (0<=c.fr) && (decide (c.fr<c.till) && (decide (c.till<=(n:Int)) && (decide (0<=c.at_) && (decide (c.at_<(n:Int)) && Zak c.cls))))
def Ins.fine (x:Ins):Bool:=x.e == 0
def Mth.body (m:Mth):Bool:=
 if m.abs then decide (m.loc=0) && (decide (m.code.length=0) && decide (m.cats.length=0))
 else decide ((m.params.length:Int)<m.loc) && (decide (0<m.code.length) && (m.code.all Ins.fine && m.cats.all (Cat.ok m.code.length)))
def Mth.ok (m:Mth):Bool:=memB m.name && (m.params.all Zaj && ((decide (m.res=[]) || Zaj m.res) && m.body))
def Cls.names (c:Cls):Bool:=Zak c.name && ((c.sup :: c.like).all Zak && ((!(c.sup :: c.like).any (fun y=>y == c.name)) && (ZbL c.like && (ZbL (c.flds.map Fld.name) && ZbL (c.mths.map Mth.name)))))
def objL:List UInt8:=[79,98,106,101,99,116]
def Cls.sort (c:Cls):Bool:=
 if (c.abs && c.fin)=true then false else if (!c.abs && c.mths.any Mth.abs)=true then false
 else if c.itf then c.abs && (decide (c.sup=objL) && (decide (c.flds.length=0) && c.mths.all Mth.abs)) else true
def Cls.fine (c:Cls):Bool:=c.names && (c.sort && (c.flds.all Fld.ok && c.mths.all Mth.ok))
def Cls.e (c:Cls):Nat:=if c.many then 51 else if c.fine then 0 else 50
