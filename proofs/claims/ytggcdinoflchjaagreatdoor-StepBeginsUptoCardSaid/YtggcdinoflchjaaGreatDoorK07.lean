/- laws -/
import Derived.Lib.VarintBits
import Derived.Laws.ShiftsVarLaws
import Derived.Lib.SliceRun
import Derived.Laws.BitsAllLaws
import Derived.Lib.Zigzag
import Derived.Test.YtggcdinoflchjaaGreatDoorK05
set_option maxRecDepth 100000
set_option maxHeartbeats 16000000
namespace Go.Proofs.YtggcdinoflchjaaGreatDoor
open Go.RowKit Go.Shelf

def Tabs (w:World):Prop:=Lib.Utf8Tabs (laysRen.g 3) (laysRen.g 4) w
theorem ZnS (s:List UInt8) (w:World) (a:s.length<=9223372036854775807) (b:Tabs w) :
  Calls Tryz.prog 263 #[.string (S s)] w fun e w'=>e=.returned (.bool (Lib.validD s))/\Below w.heap.size w w':=by
 have c:Calls Tryz.prog 263 #[.string (S s)] w _:=Any.utf8_ValidString Zhv (S s) w (by rw [Zay];exact a) b;rw [Zje] at c;exact c
end Go.Proofs.YtggcdinoflchjaaGreatDoor
namespace Go.Proofs.YtggcdinoflchjaaGreatDoor
open Go.RowKit
structure CT (w:World):Prop where
 tabs:Tabs w
 ops:OpTab w
theorem CT.keep {w w':World} (b:CT w) (a:Below w.heap.size w w'):CT w':=⟨Utf8Tabs_below b.tabs a,b.ops.keep a⟩
theorem ZiD (s:ByteArray) (w:World) :
  Calls Tryz.prog 260 #[.string s,.string ⟨#[10]⟩] w fun e w'=>e=.returned (.int .i64 (Lib.indexByte s.data.toList 10))/\w=w':=by
 go_enter Tryz.func260,Tryz.ntmps260
 go_wp2_with (go_at_call 268;refine (Zd9 _ _ _).mono ?_;rintro e w' ⟨rfl,rfl⟩)
 ·have a:([10] == s.toList)=true:=by assumption
  go_ret;refine ⟨?_,rfl⟩;have e:s.data.toList=[10]:=by rw [←Lib.toList_data];exact (beq_iff_eq.1 a).symm
  rw [e];simp [Lib.indexByte]
 ·go_ret;exact ⟨rfl,rfl⟩
theorem Zgr (l:List UInt8) (c:UInt8):decide (0<=Lib.indexByte l c)=l.contains c:=by
 induction l with
 | nil=>rfl
 | cons b l g=>
  have h:=Lib.indexByte_ge l c;rw [Lib.indexByte,List.contains_cons,←g];cases a:(b == c) with
  | true=>
   have:(c == b)=true:=by rw [beq_iff_eq] at a ⊢;exact a.symm
   simp [this]
  | false=>
   have:(c == b)=false:=by rw [Yah] at a ⊢;exact fun d=>a d.symm
   rw [this,YaS];by_cases d:Lib.indexByte l c=-1
   ·simp [d]
   ·have f:(Lib.indexByte l c == -1)=false:=by rw [Yah];exact d
    simp only [f,YbZ,if_false];exact decide_eq_decide.2 (by omega)
theorem Zg6 (l:List UInt8) (w:World) :
  Calls Tryz.prog 264 #[.string (S l),.string ⟨#[10]⟩] w fun e w'=>e=.returned (.bool (l.contains 10))/\w=w':=by
 have a:=Hd (ZiD (S l) w);rw [←Zgr];generalize c:Lib.indexByte l 10=z at a ⊢;rw [Zje,c] at a;clear c;have b:Calls Tryz.prog 273 #[.string (S l),.string ⟨#[10]⟩] w fun e w'=>e=.returned (.int .i64 z)/\w=w':=by
  go_enter Tryz.func273,Tryz.ntmps273
  go_wp2_with (go_at_call 260;refine a.o.mono ?_;rintro e w' ⟨rfl,rfl⟩)
  go_ret;exact ⟨rfl,rfl⟩
 have d:=Hd b;clear b a;go_enter Tryz.func264,Tryz.ntmps264
 go_wp2_with (go_at_call 273;refine d.o.mono ?_;rintro e w' ⟨rfl,rfl⟩)
 go_ret;exact ⟨rfl,rfl⟩
def ZaW (a:Nat) (s:List UInt8):Bool:=
 if a=2 then decide (s.length<=64) && Lib.validD s && !s.contains 10
 else if a=3 then Zal s
 else if a=4 then Zal s || decide (0<depN s)
 else if a=5 then Zaj s && decide (ZaO s<=2)
 else if a=6 then ZaU s
 else s == []
theorem ZjO (i:Nat) (l:List UInt8) (w:World) (B:CT w) (a:l.length<=9223372036854775807) :
  Calls Tryz.prog 254 #[.int .i64 i,.string (S l)] w (Said (ZaW i l) w):=by
 have D:=Hd B;clear B;unfold ZaW;by_cases s:i=2
 ·subst s;rw [YaC rfl];have E:((S l).size:Int)=(l.length:Int):=by rw [Zay]
  have r:=Hd (ZnS l w (by omega) D.o.tabs);have f:Hid (∀ w,Calls Tryz.prog 264 #[.string (S l),.string ⟨#[10]⟩] w fun e w'=>e=.returned (.bool (l.contains 10))/\w=w'):=fun w=>Zg6 l w
  by_cases m:l.length<=64
  ·have p:(l.length:Int)<=64:=by omega
   rw [Yat m,Yax];generalize Lib.validD l=v at r ⊢;generalize l.contains 10=c at f ⊢;go_enter Tryz.func254,Tryz.ntmps254;cases v
   ·go_wp2_with (first|(go_at_call 263;refine r.o.mono ?_;rintro e w' ⟨rfl,j⟩)|(go_at_call 264;refine (f.o _).mono ?_;rintro e w' ⟨rfl,rfl⟩))
    go_ret;exact ⟨rfl,j⟩
   ·go_wp2_with (first|(go_at_call 263;refine r.o.mono ?_;rintro e w' ⟨rfl,j⟩)|(go_at_call 264;refine (f.o _).mono ?_;rintro e w' ⟨rfl,rfl⟩))
    go_ret;exact ⟨rfl,j⟩
  ·have p:(64:Int)<(l.length:Int):=by omega
   rw [Yaj m,YaF,YaF];go_enter Tryz.func254,Tryz.ntmps254;go_wp2;go_ret;exact ⟨rfl,Yab _ _⟩
 rw [Yas s];have J:((i:Int) == 2)=false:=by rw [Yah];omega
 by_cases y:i=3
 ·subst y;rw [YaC rfl];have f:=Hd (ZbM l w a);generalize Zal l=c at f ⊢;go_enter Tryz.func254,Tryz.ntmps254
  go_wp2_with (go_at_call 149;refine f.o.mono ?_;rintro e w' ⟨rfl,b⟩)
  go_ret;exact ⟨rfl,b⟩
 rw [Yas y];have H:((i:Int) == 3)=false:=by rw [Yah];omega
 by_cases x:i=4
 ·subst x;rw [YaC rfl];have f:=Hd (ZbM l w a);have q:Hid (∀ w,Calls Tryz.prog 96 #[.string (S l)] w (Zib (depN l) w)):=fun w=>Zd4 l w a
  generalize Zal l=c at f ⊢;generalize depN l=d at q ⊢;go_enter Tryz.func254,Tryz.ntmps254;cases c
  ·go_wp2_with (first|(go_at_call 149;refine f.o.mono ?_;rintro e w' ⟨rfl,b⟩)|(go_at_call 96;refine (q.o _).mono ?_;rintro e t ⟨rfl,n⟩))
   go_ret;refine ⟨?_,b.trans (n.mono b.size)⟩;rw [YaS];rfl
  ·go_wp2_with (first|(go_at_call 149;refine f.o.mono ?_;rintro e w' ⟨rfl,b⟩)|(go_at_call 96;refine (q.o _).mono ?_;rintro e t ⟨rfl,n⟩))
   go_ret;exact ⟨rfl,b⟩
 rw [Yas x];have F:((i:Int) == 4)=false:=by rw [Yah];omega
 by_cases z:i=5
 ·subst z;rw [YaC rfl];by_cases g:Zaj l=true/\ZaO l<=2
  ·rw [g.1,Yat g.2];have h:=Hd (ZqK l w a g.1 g.2);clear g;go_enter Tryz.func254,Tryz.ntmps254
   go_wp2_with (go_at_call 139;refine h.o.mono ?_;rintro e w' ⟨rfl,b⟩)
   go_ret;exact ⟨rfl,b⟩
  ·have C:(Zaj l && decide (ZaO l<=2))=false:=by
    rw [Yb1];intro A;rw [Yar,YaO] at A;exact g A
   rw [C];have h:=Hd (Zq0 l w a g);clear g C;go_enter Tryz.func254,Tryz.ntmps254
   go_wp2_with (go_at_call 139;refine h.o.mono ?_;rintro e w' ⟨rfl,b⟩)
   go_ret;exact ⟨rfl,b⟩
 rw [Yas z];have G:((i:Int) == 5)=false:=by rw [Yah];omega
 by_cases u:i=6
 ·subst u;rw [YaC rfl];cases k:ZaU l
  ·have h:=Hd (Zo0 l w a k);clear k;go_enter Tryz.func254,Tryz.ntmps254
   go_wp2_with (go_at_call 196;refine h.o.mono ?_;rintro e w' ⟨rfl,b⟩)
   go_ret;exact ⟨rfl,b⟩
  ·have h:=Hd (Znn l w a k);clear k;go_enter Tryz.func254,Tryz.ntmps254
   go_wp2_with (go_at_call 196;refine h.o.mono ?_;rintro e w' ⟨rfl,b⟩)
   go_ret;exact ⟨rfl,b⟩
 rw [Yas u];have I:((i:Int) == 6)=false:=by rw [Yah];omega
 have es:=Zae l;go_enter Tryz.func254,Tryz.ntmps254;go_wp2;go_ret;refine ⟨?_,Yab _ _⟩;show Ending.returned (.bool l.isEmpty)=.returned (.bool (l == []))
 cases l <;> rfl
def Za1 (a:List UInt8) (n:Int) (s:List UInt8):Nat:=
 if idx a<42 then (if Zbm (idx a) ≠ 1/\n ≠ 0 then 41 else if ZaW (Zbm (idx a)) s then 0 else 41) else 40
abbrev insV (a:List UInt8) (n:Int) (s:List UInt8):Value:=.agg #[.string (S a),.int .i64 n,.string (S s)]
theorem ZlI (b:List UInt8) (n:Int) (s:List UInt8) (w:World) (x:CT w) (r:s.length<=9223372036854775807) :
  Calls Tryz.prog 241 #[insV b n s] w fun e w'=>e=.returned (.int .i64 (Za1 b n s:Nat))/\Below w.heap.size w w':=by
 have u:=Hd x;clear x;go_enter Tryz.func241,Tryz.ntmps241
 go_wp2_with fail
 have l:Below w.heap.size w (w.alloc (.cells #[.string (S b),.int .i64 n,.string (S s)] 48)):=(Yab _ w).alloc (Yac _) _;refine (Zj1 b _ (u.o.ops.keep l)).mono ?_;rintro e f ⟨rfl,m⟩;have k:f.heap[w.heap.size]? = some (.cells #[.string (S b),.int .i64 n,.string (S s)] 48 (0,0)):=(Yad (S:=fun _=>False) m).heap (heap_alloc_new w _) id;have j:Below w.heap.size w f:=l.trans (m.mono l.size);clear m l;have B:f.cell? ⟨w.heap.size,1,none⟩=some (.int .i64 n):=by simp [World.cell?,k]
 have y:f.cell? ⟨w.heap.size,2,none⟩=some (.string (S s)):=by simp [World.cell?,k]
 have A:w.heap.size<f.heap.size:=lt_of_block k;clear k;have h:∀ o:Obj,Below w.heap.size w (f.alloc o):=fun o=>j.alloc j.size o
 unfold ZpV;generalize ZaK (idx b)=C;by_cases g:idx b<42
 ·rw [YaC g,Yat g];have a:Za1 b n s=(if Zbm (idx b) ≠ 1/\n ≠ 0 then 41 else if ZaW (Zbm (idx b)) s then 0 else 41):=YaC g;generalize Zbm (idx b)=q at a ⊢;generalize idx b=F;have p:Hid (∀ o:Obj,Calls Tryz.prog 254 #[.int .i64 q,.string (S s)] (f.alloc o) (Said (ZaW q s) (f.alloc o))):=fun o=>ZjO q s _ (u.o.keep (h o)) r
  generalize ZaW q s=ok at p a;have c:=Hd h;clear h j g;by_cases v:q=1
  ·subst v;rw [Yas (by simp)] at a;cases ok
   ·have d:=Hd a;clear a
    go_wp2_with (go_at_call 254;refine (p.o _).mono ?_;rintro e w' ⟨rfl,i⟩)
    go_ret;exact ⟨by rw [d.o];rfl,(c.o _).trans (i.mono (c.o _).size)⟩
   ·have d:=Hd a;clear a
    go_wp2_with (go_at_call 254;refine (p.o _).mono ?_;rintro e w' ⟨rfl,i⟩)
    go_ret;exact ⟨by rw [d.o];rfl,(c.o _).trans (i.mono (c.o _).size)⟩
  ·have D:((q:Int) == 1)=false:=by rw [Yah];omega
   have z:((q:Int) != 1)=true:=by rw [bne_iff_ne];omega
   by_cases t:n=0
   ·subst t;rw [Yas (by simp)] at a;cases ok
    ·have d:=Hd a;clear a
     go_wp2_with (go_at_call 254;refine (p.o _).mono ?_;rintro e w' ⟨rfl,i⟩)
     go_ret;exact ⟨by rw [d.o];rfl,(c.o _).trans (i.mono (c.o _).size)⟩
    ·have d:=Hd a;clear a
     go_wp2_with (go_at_call 254;refine (p.o _).mono ?_;rintro e w' ⟨rfl,i⟩)
     go_ret;exact ⟨by rw [d.o];rfl,(c.o _).trans (i.mono (c.o _).size)⟩
   ·rw [YaC ⟨v,t⟩] at a;have d:=Hd a;clear a;have E:(n != 0)=true:=by rw [bne_iff_ne];exact t
    go_wp2;go_ret;exact ⟨by rw [d.o];rfl,c.o _⟩
 ·have d:Hid (Za1 b n s=40):=Hd (Yas g);rw [Yas g,Yaj g];generalize Zbm (idx b)=q;have c:=Hd h;clear h j g;go_wp2;go_ret;exact ⟨by rw [d.o];rfl,c.o _⟩
structure Ins where
 op:List UInt8
 n:Int
 s:List UInt8
def Ins.e (x:Ins):Nat:=Za1 x.op x.n x.s
def allE:List Ins->Nat
 | []=>0
 | x :: l=>if x.e=0 then allE l else x.e
def Zpj (w:World) (sv:Value) (l:List Ins):Prop:=
 (∃ c a,sv=.slice c 0 a/\l=[])\/∃ b o a,sv=.slice (some ⟨b,o,none⟩) l.length a/\
  ∀ k x,l[k]? = some x->w.cell? ⟨b,o+k * 3,none⟩=some (.string (S x.op))/\w.cell? ⟨b,o+k * 3+1,none⟩=some (.int .i64 x.n)/\w.cell? ⟨b,o+k * 3+2,none⟩=some (.string (S x.s))
theorem ZlC (l:List Ins) (k:Nat) (x:Ins) (c:l[k]? = some x):allE (l.drop k)=if x.e=0 then allE (l.drop (k+1)) else x.e:=by
 have b:k<l.length:=by
  rcases YaB k l.length with a|a
  ·exact a
  ·rw [YaN a] at c;cases c
 rw [Yaa b] at c;rw [YbK b,Yae c];rfl
structure Mth where
 name:List UInt8
 params:List (List UInt8)
 res:List UInt8
 abs:Bool
 loc:Int
 code:List Ins
 cats:List Cat
structure Cls where
 name:List UInt8
 sup:List UInt8
 like:List (List UInt8)
 itf:Bool
 abs:Bool
 fin:Bool
 flds:List Fld
 mths:List Mth
abbrev Zjn (x:Ins):Value:=.agg #[.string (S x.op),.int .i64 x.n,.string (S x.s)]
abbrev InsR:Zao Ins:=Flat Zjn
def MthR:Zao Mth:=fun A w m v=>∃ b a c,v=.agg #[.string (S m.name),b,.string (S m.res),.bool m.abs,.int .i64 m.loc,a,c]/\Src 1 StrR A w b m.params/\Src 3 InsR A w a m.code/\Src 4 CatR A w c m.cats
theorem Zam {A:Nat->Prop} {w:World} {m:Mth} {v:Value} (p:MthR A w m v):∃ c a b,v=.agg #[.string (S m.name),c,.string (S m.res),.bool m.abs,.int .i64 m.loc,a,b]/\(∃ n g,c=.slice n m.params.length g)/\(∃ f j,a=.slice f m.code.length j)/\∃ l d,b=.slice l m.cats.length d:=by
 obtain ⟨c,a,b,rfl,h,i,k⟩:=p;exact ⟨c,a,b,rfl,h.shape,i.shape,k.shape⟩
def ClsR:Zao Cls:=fun A w c v=>∃ b d a,v=.agg #[.string (S c.name),.string (S c.sup),b,.bool c.itf,.bool c.abs,.bool c.fin,d,a]/\Src 1 StrR A w b c.like/\Src 3 FldR A w d c.flds/\Src 7 MthR A w a c.mths
theorem InsR.st:Stays InsR:=Flat.stays _
theorem MthR.st:Stays MthR:=
 ⟨fun ⟨j,g,i,h,b,d,f⟩ c a=>⟨j,g,i,h,StrR.st.src b c a,InsR.st.src d c a,CatR.st.src f c a⟩,
  fun ⟨j,g,i,h,b,d,f⟩ a=>⟨j,g,i,h,StrR.st.srcMono b a,InsR.st.srcMono d a,CatR.st.srcMono f a⟩⟩
theorem ClsR.st:Stays ClsR:=
 ⟨fun ⟨j,g,i,h,b,d,f⟩ c a=>⟨j,g,i,h,StrR.st.src b c a,FldR.st.src d c a,MthR.st.src f c a⟩,
  fun ⟨j,g,i,h,b,d,f⟩ a=>⟨j,g,i,h,StrR.st.srcMono b a,FldR.st.srcMono d a,MthR.st.srcMono f a⟩⟩
theorem Zmz {A:Nat->Prop} {w:World} {sv:Value} {l:List Ins} (h:Src 3 InsR A w sv l):Zpj w sv l:=by
 rcases h with ⟨d,a,rfl,rfl⟩|⟨b,o,a,rfl,_,f⟩
 ·exact .inl ⟨d,a,rfl,rfl⟩
 ·refine .inr ⟨b,o,a,rfl,fun k x g=>?_⟩;obtain ⟨v,rfl,_,c⟩:=f k x g;exact ⟨c 0 _ rfl,c 1 _ rfl,c 2 _ rfl⟩
/-! What a class may be. -/
def Mth.many (m:Mth):Bool:=decide (32<m.params.length) || (decide (32<m.cats.length) || (decide (200<m.code.length) || decide (64<m.loc)))
def Cls.many (c:Cls):Bool:=decide (32<c.like.length) || (decide (32<c.flds.length) || (decide (32<c.mths.length) || c.mths.any Mth.many))
def memB (l:List UInt8):Bool:=ZbJ l && !Zal l
def Fld.ok (f:Fld):Bool:=memB f.name && Zaj f.kind
def Cat.ok (n:Nat) (c:Cat):Bool:=decide (0<=c.fr) && (decide (c.fr<c.till) && (decide (c.till<=(n:Int)) && (decide (0<=c.at_) && (decide (c.at_<(n:Int)) && Zal c.cls))))
def Ins.fine (x:Ins):Bool:=x.e == 0
def Mth.body (m:Mth):Bool:=
 if m.abs then decide (m.loc=0) && (decide (m.code.length=0) && decide (m.cats.length=0))
 else decide ((m.params.length:Int)<m.loc) && (decide (0<m.code.length) && (m.code.all Ins.fine && m.cats.all (Cat.ok m.code.length)))
def Mth.ok (m:Mth):Bool:=memB m.name && (m.params.all Zaj && ((decide (m.res=[]) || Zaj m.res) && m.body))
def Cls.names (c:Cls):Bool:=Zal c.name && ((c.sup :: c.like).all Zal && ((!(c.sup :: c.like).any (fun a=>a == c.name)) && (ZbB c.like && (ZbB (c.flds.map Fld.name) && ZbB (c.mths.map Mth.name)))))
def objL:List UInt8:=[79,98,106,101,99,116]
def Cls.sort (c:Cls):Bool:=
 if (c.abs && c.fin)=true then false else if (!c.abs && c.mths.any Mth.abs)=true then false
 else if c.itf then c.abs && (decide (c.sup=objL) && (decide (c.flds.length=0) && c.mths.all Mth.abs)) else true
def Cls.fine (c:Cls):Bool:=c.names && (c.sort && (c.flds.all Fld.ok && c.mths.all Mth.ok))
def Cls.e (c:Cls):Nat:=if c.many then 51 else if c.fine then 0 else 50
