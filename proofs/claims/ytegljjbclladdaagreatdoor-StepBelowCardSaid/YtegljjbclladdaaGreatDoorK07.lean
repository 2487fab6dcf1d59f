/- laws -/
import Derived.Test.YtegljjbclladdaaGreatDoorK05
import Derived.Lib.SliceRun
import Derived.Lib.VarintBits
import Derived.Lib.Zigzag
set_option maxRecDepth 100000
set_option maxHeartbeats 16000000
namespace Go.Proofs.YtegljjbclladdaaGreatDoor
open Go.RowKit Go.Shelf Tryz

def Tabs (w:World):Prop:=Lib.Utf8Tabs (laysRen.g 3) (laysRen.g 4) w
theorem ZpY (s:List UInt8)(w:World)(a:s.length<=9223372036854775807)(b:Tabs w) :
  Calls prog 248 #[.string (S s)] w fun e w'=>e=.returned (.bool (Lib.validD s))/\Below w.heap.size w w':=by
 have c:Calls prog 248 #[.string (S s)] w _:=Any.utf8_ValidString ZiM (S s) w (by rw[Zat];exact a) b;rw[ZkF]at c;exact c
end Go.Proofs.YtegljjbclladdaaGreatDoor
namespace Go.Proofs.YtegljjbclladdaaGreatDoor
open Go.RowKit Tryz
structure CT (w:World):Prop where
 tabs:Tabs w
 ops:OpTab w
theorem CT.keep {w w':World}(b:CT w)(a:Below w.heap.size w w'):CT w':=⟨Utf8Tabs_below b.tabs a,b.ops.keep a⟩
theorem ZjY (s:ByteArray)(w:World) :
  Calls prog 245 #[.string s,.string ⟨#[10]⟩] w fun e w'=>e=.returned (.int .i64 (Lib.indexByte s.data.toList 10))/\w=w':=by
 go_enter func245,ntmps245
 go_wp2_with (go_at_call 253;refine(ZeI _ _ _).mono ?_;rintro e w'⟨rfl,rfl⟩)
 ·have a:([10]==s.toList)=true:=by assumption
  go_ret;refine⟨?_,rfl⟩;have e:s.data.toList=[10]:=by rw[←Lib.toList_data];exact(beq_iff_eq.1 a).symm
  rw[e];simp[Lib.indexByte]
 ·go_ret;exact⟨rfl,rfl⟩
theorem Zhy (l:List UInt8)(c:UInt8):decide (0<=Lib.indexByte l c)=l.contains c:=by
 induction l with
 |nil=>rfl
 |cons b l g=>
  have h:=Lib.indexByte_ge l c;rw[Lib.indexByte,List.contains_cons,←g];cases a:(b==c)with
  |true=>
   have:(c==b)=true:=by rw[beq_iff_eq]at a⊢;exact a.symm
   simp[this]
  |false=>
   have:(c==b)=false:=by rw[Yah]at a⊢;exact fun d=>a d.symm
   rw[this,YaV];by_cases d:Lib.indexByte l c=-1
   ·simp[d]
   ·have f:(Lib.indexByte l c==-1)=false:=by rw[Yah];exact d
    simp only[f,Yb2,if_false];exact decide_eq_decide.2 (by omega)
theorem Zim (l:List UInt8)(w:World) :
  Calls prog 249 #[.string (S l),.string ⟨#[10]⟩] w fun e w'=>e=.returned (.bool (l.contains 10))/\w=w':=by
 have a:=Hd (ZjY (S l) w);rw[←Zhy];generalize c:Lib.indexByte l 10=z at a⊢;rw[ZkF,c]at a;clear c;have b:Calls prog 258 #[.string (S l),.string ⟨#[10]⟩] w fun e w'=>e=.returned (.int .i64 z)/\w=w':=by
  go_enter func258,ntmps258
  go_wp2_with (go_at_call 245;refine a.o.mono ?_;rintro e w'⟨rfl,rfl⟩)
  go_ret;exact⟨rfl,rfl⟩
 have d:=Hd b;clear b a;go_enter func249,ntmps249
 go_wp2_with (go_at_call 258;refine d.o.mono ?_;rintro e w'⟨rfl,rfl⟩)
 go_ret;exact⟨rfl,rfl⟩
def Za3 (a:Nat)(s:List UInt8):Bool:=
 if a=2 then decide (s.length<=64)&&Lib.validD s&&!s.contains 10
 else if a=3 then Zah s
 else if a=4 then Zah s || decide (0<depN s)
 else if a=5 then Zag s&&decide (ZaL s<=2)
 else if a=6 then ZaU s
 else s==[]
theorem Zlt (i:Nat)(l:List UInt8)(w:World)(y:CT w)(a:l.length<=9223372036854775807) :
  Calls prog 239 #[.int .i64 i,.string (S l)] w (Said (Za3 i l) w):=by
 have D:=Hd y;clear y;unfold Za3;by_cases A:i=2
 ·subst A;rw[Yay rfl];have E:((S l).size:Int)=(l.length:Int):=by rw[Zat]
  have q:=Hd (ZpY l w (by omega) D.o.tabs);have f:Hid (∀w,Calls prog 249 #[.string (S l),.string ⟨#[10]⟩] w fun e w'=>e=.returned (.bool (l.contains 10))/\w=w'):=fun w=>Zim l w;by_cases n:l.length<=64
  ·have r:(l.length:Int)<=64:=by omega
   rw[Yas n,YaG];generalize Lib.validD l=v at q⊢;generalize l.contains 10=c at f⊢;go_enter func239,ntmps239;cases v
   ·go_wp2_with (first|(go_at_call 248;refine q.o.mono ?_;rintro e w'⟨rfl,j⟩)|(go_at_call 249;refine(f.o _).mono ?_;rintro e w'⟨rfl,rfl⟩))
    go_ret;exact⟨rfl,j⟩
   ·go_wp2_with (first|(go_at_call 248;refine q.o.mono ?_;rintro e w'⟨rfl,j⟩)|(go_at_call 249;refine(f.o _).mono ?_;rintro e w'⟨rfl,rfl⟩))
    go_ret;exact⟨rfl,j⟩
  ·have r:(64:Int)<(l.length:Int):=by omega
   rw[Yan n,YaQ,YaQ];go_enter func239,ntmps239;go_wp2;go_ret;exact⟨rfl,Yab _ _⟩
 rw[Yar A];have G:((i:Int)==2)=false:=by rw[Yah];omega
 by_cases B:i=3
 ·subst B;rw[Yay rfl];have f:=Hd (ZbV l w a);generalize Zah l=c at f⊢;go_enter func239,ntmps239
  go_wp2_with (go_at_call 120;refine f.o.mono ?_;rintro e w'⟨rfl,b⟩)
  go_ret;exact⟨rfl,b⟩
 rw[Yar B];have I:((i:Int)==3)=false:=by rw[Yah];omega
 by_cases u:i=4
 ·subst u;rw[Yay rfl];have f:=Hd (ZbV l w a);have p:Hid (∀w,Calls prog 179 #[.string (S l)] w (Zjx (depN l) w)):=fun w=>ZeC l w a;generalize Zah l=c at f⊢;generalize depN l=d at p⊢;go_enter func239,ntmps239;cases c
  ·go_wp2_with (first|(go_at_call 120;refine f.o.mono ?_;rintro e w'⟨rfl,b⟩)|(go_at_call 179;refine(p.o _).mono ?_;rintro e z⟨rfl,m⟩))
   go_ret;refine⟨?_,b.trans (m.mono b.size)⟩;rw[YaV];rfl
  ·go_wp2_with (first|(go_at_call 120;refine f.o.mono ?_;rintro e w'⟨rfl,b⟩)|(go_at_call 179;refine(p.o _).mono ?_;rintro e z⟨rfl,m⟩))
   go_ret;exact⟨rfl,b⟩
 rw[Yar u];have J:((i:Int)==4)=false:=by rw[Yah];omega
 by_cases C:i=5
 ·subst C;rw[Yay rfl];by_cases g:Zag l=true/\ZaL l<=2
  ·rw[g.1,Yas g.2];have h:=Hd (Ztk l w a g.1 g.2);clear g;go_enter func239,ntmps239
   go_wp2_with (go_at_call 110;refine h.o.mono ?_;rintro e w'⟨rfl,b⟩)
   go_ret;exact⟨rfl,b⟩
  ·have t:(Zag l&&decide (ZaL l<=2))=false:=by
    rw[Yb3];intro s;rw[Yaw,YaP]at s;exact g s
   rw[t];have h:=Hd (ZtI l w a g);clear g t;go_enter func239,ntmps239
   go_wp2_with (go_at_call 110;refine h.o.mono ?_;rintro e w'⟨rfl,b⟩)
   go_ret;exact⟨rfl,b⟩
 rw[Yar C];have H:((i:Int)==5)=false:=by rw[Yah];omega
 by_cases x:i=6
 ·subst x;rw[Yay rfl];cases k:ZaU l
  ·have h:=Hd (Zrf l w a k);clear k;go_enter func239,ntmps239
   go_wp2_with (go_at_call 170;refine h.o.mono ?_;rintro e w'⟨rfl,b⟩)
   go_ret;exact⟨rfl,b⟩
  ·have h:=Hd (Zpp l w a k);clear k;go_enter func239,ntmps239
   go_wp2_with (go_at_call 170;refine h.o.mono ?_;rintro e w'⟨rfl,b⟩)
   go_ret;exact⟨rfl,b⟩
 rw[Yar x];have F:((i:Int)==6)=false:=by rw[Yah];omega
 have es:=Zaf l;go_enter func239,ntmps239;go_wp2;go_ret;refine⟨?_,Yab _ _⟩;show Ending.returned (.bool l.isEmpty)=.returned (.bool (l==[]))
 cases l<;>rfl
def Za9 (a:List UInt8)(n:Int)(s:List UInt8):Nat:=
 if idx a<42 then(if Zbz (idx a)≠1/\n≠0 then 41 else if Za3 (Zbz (idx a)) s then 0 else 41)else 40
abbrev insV (a:List UInt8)(n:Int)(s:List UInt8):Value:=.agg #[.string (S a),.int .i64 n,.string (S s)]
theorem Znz (b:List UInt8)(n:Int)(s:List UInt8)(w:World)(u:CT w)(r:s.length<=9223372036854775807) :
  Calls prog 224 #[insV b n s] w fun e w'=>e=.returned (.int .i64 (Za9 b n s:Nat))/\Below w.heap.size w w':=by
 have x:=Hd u;clear u;go_enter func224,ntmps224
 go_wp2_with fail;have j:Below w.heap.size w (w.alloc (.cells #[.string (S b),.int .i64 n,.string (S s)] 28)):=(Yab _ w).alloc (Yad _) _;refine(ZlE b _ (x.o.ops.keep j)).mono ?_;rintro e f⟨rfl,m⟩;have k:f.heap[w.heap.size]?=some (.cells #[.string (S b),.int .i64 n,.string (S s)] 28 (0,0)):=(Yae (S:=fun _=>False) m).heap (heap_alloc_new w _) id;have l:Below w.heap.size w f:=j.trans (m.mono j.size);clear m j;have A:f.cell? ⟨w.heap.size,1,none⟩=some (.int .i64 n):=by simp[World.cell?,k]
 have B:f.cell? ⟨w.heap.size,2,none⟩=some (.string (S s)):=by simp[World.cell?,k]
 have y:w.heap.size<f.heap.size:=lt_of_block k;clear k;have g:∀o:Obj,Below w.heap.size w (f.alloc o):=fun o=>l.alloc l.size o;unfold Zso;generalize ZaB (idx b)=D;by_cases h:idx b<42
 ·rw[Yay h,Yas h];have a:Za9 b n s=(if Zbz (idx b)≠1/\n≠0 then 41 else if Za3 (Zbz (idx b)) s then 0 else 41):=Yay h;generalize Zbz (idx b)=q at a⊢;generalize idx b=F;have p:Hid (∀o:Obj,Calls prog 239 #[.int .i64 q,.string (S s)] (f.alloc o) (Said (Za3 q s) (f.alloc o))):=fun o=>Zlt q s _ (x.o.keep (g o)) r;generalize Za3 q s=ok at p a;have c:=Hd g;clear g l h;by_cases v:q=1
  ·subst v;rw[Yar (by simp)]at a;cases ok
   ·have d:=Hd a;clear a;go_wp2_with (go_at_call 239;refine(p.o _).mono ?_;rintro e w'⟨rfl,i⟩)
    go_ret;exact⟨by rw[d.o];rfl,(c.o _).trans (i.mono (c.o _).size)⟩
   ·have d:=Hd a;clear a;go_wp2_with (go_at_call 239;refine(p.o _).mono ?_;rintro e w'⟨rfl,i⟩)
    go_ret;exact⟨by rw[d.o];rfl,(c.o _).trans (i.mono (c.o _).size)⟩
  ·have C:((q:Int)==1)=false:=by rw[Yah];omega
   have z:((q:Int) != 1)=true:=by rw[bne_iff_ne];omega
   by_cases t:n=0
   ·subst t;rw[Yar (by simp)]at a;cases ok
    ·have d:=Hd a;clear a;go_wp2_with (go_at_call 239;refine(p.o _).mono ?_;rintro e w'⟨rfl,i⟩)
     go_ret;exact⟨by rw[d.o];rfl,(c.o _).trans (i.mono (c.o _).size)⟩
    ·have d:=Hd a;clear a;go_wp2_with (go_at_call 239;refine(p.o _).mono ?_;rintro e w'⟨rfl,i⟩)
     go_ret;exact⟨by rw[d.o];rfl,(c.o _).trans (i.mono (c.o _).size)⟩
   ·rw[Yay ⟨v,t⟩]at a;have d:=Hd a;clear a;have E:(n != 0)=true:=by rw[bne_iff_ne];exact t
    go_wp2;go_ret;exact⟨by rw[d.o];rfl,c.o _⟩
 ·have d:Hid (Za9 b n s=40):=Hd (Yar h);rw[Yar h,Yan h];generalize Zbz (idx b)=q;have c:=Hd g;clear g l h;go_wp2;go_ret;exact⟨by rw[d.o];rfl,c.o _⟩
structure Ins where
 op:List UInt8
 n:Int
 s:List UInt8
def Ins.e (x:Ins):Nat:=Za9 x.op x.n x.s
def allE:List Ins->Nat
 |[]=>0
 |x::l=>if x.e=0 then allE l else x.e
def InsSrc (w:World)(sv:Value)(l:List Ins):Prop:=
 (∃c a,sv=.slice c 0 a/\l=[])\/∃b o a,sv=.slice (some ⟨b,o,none⟩) l.length a/\
  ∀k x,l[k]?=some x->w.cell? ⟨b,o+k*3,none⟩=some (.string (S x.op))/\w.cell? ⟨b,o+k*3+1,none⟩=some (.int .i64 x.n)/\w.cell? ⟨b,o+k*3+2,none⟩=some (.string (S x.s))
theorem Znp (l:List Ins)(k:Nat)(x:Ins)(c:l[k]?=some x):allE (l.drop k)=if x.e=0 then allE (l.drop (k+1))else x.e:=by
 have b:k<l.length:=by
  rcases YaC k l.length with a|a
  ·exact a
  ·rw[YaS a]at c;cases c
 rw[Yaa b]at c;rw[YbJ b,Yac c];rfl
structure Mth where
 name:List UInt8
 params:List (List UInt8)
 res:List UInt8
 abs:Bool
 loc:Int
 code:List Ins
 cats:List Cat
structure Cls where
 name:List UInt8
 sup:List UInt8
 like:List (List UInt8)
 itf:Bool
 abs:Bool
 fin:Bool
 flds:List Fld
 mths:List Mth
abbrev ZkV (x:Ins):Value:=.agg #[.string (S x.op),.int .i64 x.n,.string (S x.s)]
abbrev InsR:Zao Ins:=Flat ZkV
def MthR:Zao Mth:=fun A w m v=>∃a c b,v=.agg #[.string (S m.name),a,.string (S m.res),.bool m.abs,.int .i64 m.loc,c,b]/\Src 1 StrR A w a m.params/\Src 3 InsR A w c m.code/\Src 4 CatR A w b m.cats
theorem Zaj {A:Nat->Prop}{w:World}{m:Mth}{v:Value}(p:MthR A w m v):∃c b a,v=.agg #[.string (S m.name),c,.string (S m.res),.bool m.abs,.int .i64 m.loc,b,a]/\(∃j g,c=.slice j m.params.length g)/\(∃l h,b=.slice l m.code.length h)/\∃f n,a=.slice f m.cats.length n:=by
 obtain⟨c,b,a,rfl,d,k,i⟩:=p;exact⟨c,b,a,rfl,d.shape,k.shape,i.shape⟩
def ClsR:Zao Cls:=fun A w c v=>∃d b a,v=.agg #[.string (S c.name),.string (S c.sup),d,.bool c.itf,.bool c.abs,.bool c.fin,b,a]/\Src 1 StrR A w d c.like/\Src 3 FldR A w b c.flds/\Src 7 MthR A w a c.mths
theorem InsR.st:Stays InsR:=Flat.stays _
theorem MthR.st:Stays MthR:=
 ⟨fun⟨i,g,c,j,b,f,d⟩ h a=>⟨i,g,c,j,StrR.st.src b h a,InsR.st.src f h a,CatR.st.src d h a⟩,
  fun⟨i,g,c,j,b,f,d⟩ a=>⟨i,g,c,j,StrR.st.srcMono b a,InsR.st.srcMono f a,CatR.st.srcMono d a⟩⟩
theorem ClsR.st:Stays ClsR:=
 ⟨fun⟨i,g,c,j,b,f,d⟩ h a=>⟨i,g,c,j,StrR.st.src b h a,FldR.st.src f h a,MthR.st.src d h a⟩,
  fun⟨i,g,c,j,b,f,d⟩ a=>⟨i,g,c,j,StrR.st.srcMono b a,FldR.st.srcMono f a,MthR.st.srcMono d a⟩⟩
theorem Zow {A:Nat->Prop}{w:World}{sv:Value}{l:List Ins}(h:Src 3 InsR A w sv l):InsSrc w sv l:=by
 rcases h with⟨g,a,rfl,rfl⟩|⟨b,o,a,rfl,_,d⟩
 ·exact .inl ⟨g,a,rfl,rfl⟩
 ·refine .inr ⟨b,o,a,rfl,fun k x f=>?_⟩;obtain⟨v,rfl,_,c⟩:=d k x f;exact⟨c 0 _ rfl,c 1 _ rfl,c 2 _ rfl⟩
/-! What a class may be. -/
def Mth.many (m:Mth):Bool:=decide (32<m.params.length) || (decide (32<m.cats.length) || (decide (200<m.code.length) || decide (64<m.loc)))
def Cls.many (c:Cls):Bool:=decide (32<c.like.length) || (decide (32<c.flds.length) || (decide (32<c.mths.length) || c.mths.any Mth.many))
def memB (l:List UInt8):Bool:=ZbS l&&!Zah l
def Fld.ok (f:Fld):Bool:=memB f.name&&Zag f.kind
def Cat.ok (n:Nat)(c:Cat):Bool:=decide (0<=c.fr)&&(decide (c.fr<c.till)&&(decide (c.till<=(n:Int))&&(decide (0<=c.at_)&&(decide (c.at_<(n:Int))&&Zah c.cls))))
def Ins.fine (x:Ins):Bool:=x.e==0
def Mth.body (m:Mth):Bool:=
 if m.abs then decide (m.loc=0)&&(decide (m.code.length=0)&&decide (m.cats.length=0))
 else decide ((m.params.length:Int)<m.loc)&&(decide (0<m.code.length)&&(m.code.all Ins.fine&&m.cats.all (Cat.ok m.code.length)))
def Mth.ok (m:Mth):Bool:=memB m.name&&(m.params.all Zag&&((decide (m.res=[]) || Zag m.res)&&m.body))
def Cls.names (c:Cls):Bool:=Zah c.name&&((c.sup::c.like).all Zah&&((!(c.sup::c.like).any (fun a=>a==c.name))&&(ZbM c.like&&(ZbM (c.flds.map Fld.name)&&ZbM (c.mths.map Mth.name)))))
def objL:List UInt8:=[79,98,106,101,99,116]
def Cls.sort (c:Cls):Bool:=
 if(c.abs&&c.fin)=true then false else if(!c.abs&&c.mths.any Mth.abs)=true then false
 else if c.itf then c.abs&&(decide (c.sup=objL)&&(decide (c.flds.length=0)&&c.mths.all Mth.abs))else true
def Cls.fine (c:Cls):Bool:=c.names&&(c.sort&&(c.flds.all Fld.ok&&c.mths.all Mth.ok))
def Cls.e (c:Cls):Nat:=if c.many then 51 else if c.fine then 0 else 50
