/- laws -/
import Derived.Test.YtegljjbclladdaaGreatDoorK02
set_option maxRecDepth 100000
set_option maxHeartbeats 16000000
namespace Go.Proofs.YtegljjbclladdaaGreatDoor
open Go.RowKit Tryz
def Said (b:Bool)(w:World)(e:Ending)(w':World):Prop:=e=.returned (.bool b)/\Below w.heap.size w w'
theorem ZeQ (p:Int->Bool){k:Nat}{c:UInt8}(b:¬((97<=c.toNat/\c.toNat<=122)\/(65<=c.toNat/\c.toNat<=90)\/(48<=c.toNat/\c.toNat<=57))):okP p k c=false:=by
 unfold okP Zcg ZdO;cases a:(decide (97<=c.toNat)&&decide (c.toNat<=122) || decide (65<=c.toNat)&&decide (c.toNat<=90) || decide (48<=c.toNat)&&decide (c.toNat<=57))with
 |false=>rw[Yco]
 |true=>
  exfalso;apply b;simp only[YaZ,Yaw,YaP]at a;omega
theorem Ze8 (p:Int->Bool){k:Nat}{c:UInt8}(a:k≠0\/p c.toNat=true)(b:(97<=c.toNat/\c.toNat<=122)\/(65<=c.toNat/\c.toNat<=90)\/(48<=c.toNat/\c.toNat<=57)):okP p k c=true:=by
 unfold okP Zcg ZdO;rw[Yaw];constructor
 ·rcases a with a|a
  ·simp[a]
  ·simp[a]
 ·simp only[YaZ,Yaw,YaP];omega
theorem Zo3 (p:Int->Bool){c:UInt8}(a:p c.toNat=false):okP p 0 c=false:=by
 unfold okP;simp[a]
theorem Zgh (ag:Nat)(p:Int->Bool)(i:∀args w,(callFunc ag args).run prog w=.ok (.enter ag args) w)
  (af:∀(F:Int) (w:World),Calls prog ag #[.int .i32 F] w fun e w'=>e=.returned (.bool (p F))/\w=w')(M:∀F:Int,128<=F->p F=false)
  (l:List UInt8)(w:World)(O:l.length<=9223372036854775807) :
  Calls prog 184 #[.string (S l),.func (.func ag) #[] #[]] w (Said (Zda p l) w):=by
 have V:((S l).size:Int)=(l.length:Int):=by rw[Zat]
 have Z:=Hd M;have s:=Hd af;have aa:=Hd i;clear M af i;by_cases B:l=[]
 ·subst B;rw[Zj9];have X:(S []).toList=[]:=Zaf [];go_enter func184,ntmps184;go_wp2;go_ret;exact⟨rfl,Yab _ _⟩
 have X:(!(S l).toList.isEmpty)=true:=by rw[Zaf];simp[B]
 have ah:((S l).toList==[])=false:=by rw[Zaf];simpa using B
 by_cases N:32<l.length
 ·rw[Zj8 N];have E:(32:Int)<(l.length:Int):=by omega
  go_enter func184,ntmps184;go_wp2;go_ret;exact⟨rfl,Yab _ _⟩
 have E:(l.length:Int)<=32:=by omega
 have ac:=Hd B;clear B;obtain⟨n,R⟩:∃n,n=l.length:=⟨_,rfl⟩
 rw[←R]at V E O;have Y:=Hd R;clear R N;go_enter func184,ntmps184;go_wp2;clear X ah
 go_loopw [5] (fun _ w'=>∃k:Nat,k<=n/\w'=w.iter (S l) k/\Zgj p l k=true) (fun _ w'=>n-w'.iterPos w.heap.size)
 case atStart=>exact⟨0,Yao _,rfl,Zme p l⟩
 case round=>
  obtain⟨k,ak,rfl,I⟩:=hrel;have j:=Hd I;clear I;by_cases aj:k<n
  ·have z:k<l.length:=by have:=Y.o;omega
   have D:k<(S l).size:=by rw[Zat];exact z
   obtain⟨x,U⟩:∃x,x=l.getD k 0:=⟨_,rfl⟩
   have g:=Hd U;have ae:=ZsI l k z D;have u:=Hd (fun ty=>run_next_any (P:=prog) w (S l) k ty D);rw[←U]at ae;have h:=Hd z;clear U z D;rcases ae with⟨y,W⟩|⟨y,L,J,ab⟩
   ·rw[W]at u;clear W;have v:=u.o;clear u;obtain⟨c,T⟩:∃c,c=x.toNat:=⟨_,rfl⟩
    have f:=Hd T;rw[←T]at v y;clear T;by_cases m:k=0
    ·subst m;have i:=aa.o;cases A:p (c:Int)with
     |true=>
      have b:=Hd A;clear A;rcases(show(65<=(c:Int)/\(c:Int)<=90)\/(97<=(c:Int)/\(c:Int)<=122)\/(48<=(c:Int)/\(c:Int)<=57)\/((c:Int)<48)\/(57<(c:Int)/\(c:Int)<65)\/(90<(c:Int)/\(c:Int)<97)\/(122<(c:Int))by omega)with a|a|a|a|a|a|a
      ·obtain⟨a,t⟩:=a;go_wp2_with fail;refine(s.o _ _).mono ?_;rintro e w'⟨rfl,rfl⟩;rw[b.o];clear i;go_wp2;go_roundw
       case rel=>exact⟨1,by omega,rfl,by rw[show 1=0+1 from rfl,ZcI,j.o,←g.o,Ze8 p (.inr (by rw[←f.o];exact b.o)) (by rw[←f.o];omega)];rfl⟩
       case measure=>simp;omega
      ·obtain⟨a,t⟩:=a;have q:decide ((c:Int)<=90)=false:=by simp;omega
       go_wp2_with fail;refine(s.o _ _).mono ?_;rintro e w'⟨rfl,rfl⟩;rw[b.o];clear i;go_wp2;go_roundw
       case rel=>exact⟨1,by omega,rfl,by rw[show 1=0+1 from rfl,ZcI,j.o,←g.o,Ze8 p (.inr (by rw[←f.o];exact b.o)) (by rw[←f.o];omega)];rfl⟩
       case measure=>simp;omega
      ·obtain⟨a,t⟩:=a;go_wp2_with fail;refine(s.o _ _).mono ?_;rintro e w'⟨rfl,rfl⟩;rw[b.o];clear i;go_wp2;go_roundw
       case rel=>exact⟨1,by omega,rfl,by rw[show 1=0+1 from rfl,ZcI,j.o,←g.o,Ze8 p (.inr (by rw[←f.o];exact b.o)) (by rw[←f.o];omega)];rfl⟩
       case measure=>simp;omega
      ·go_wp2_with fail;refine(s.o _ _).mono ?_;rintro e w'⟨rfl,rfl⟩;rw[b.o];clear i;go_wp2;go_ret;exact⟨Zai (Zbj h.o (by rw[←g.o];exact ZeQ p (by rw[←f.o];omega))).symm,(Yab _ _).alloc (Yad _) _⟩
      ·obtain⟨a,t⟩:=a;have r:decide ((c:Int)<=57)=false:=by simp;omega
       go_wp2_with fail;refine(s.o _ _).mono ?_;rintro e w'⟨rfl,rfl⟩;rw[b.o];clear i;go_wp2;go_ret;exact⟨Zai (Zbj h.o (by rw[←g.o];exact ZeQ p (by rw[←f.o];omega))).symm,(Yab _ _).alloc (Yad _) _⟩
      ·obtain⟨a,t⟩:=a;have q:decide ((c:Int)<=90)=false:=by simp;omega
       have r:decide ((c:Int)<=57)=false:=by simp;omega
       go_wp2_with fail;refine(s.o _ _).mono ?_;rintro e w'⟨rfl,rfl⟩;rw[b.o];clear i;go_wp2;go_ret;exact⟨Zai (Zbj h.o (by rw[←g.o];exact ZeQ p (by rw[←f.o];omega))).symm,(Yab _ _).alloc (Yad _) _⟩
      ·have q:decide ((c:Int)<=90)=false:=by simp;omega
       have H:decide ((c:Int)<=122)=false:=by simp;omega
       have r:decide ((c:Int)<=57)=false:=by simp;omega
       go_wp2_with fail;refine(s.o _ _).mono ?_;rintro e w'⟨rfl,rfl⟩;rw[b.o];clear i;go_wp2;go_ret;exact⟨Zai (Zbj h.o (by rw[←g.o];exact ZeQ p (by rw[←f.o];omega))).symm,(Yab _ _).alloc (Yad _) _⟩
     |false=>
      have b:=Hd A;clear A;go_wp2_with fail;refine(s.o _ _).mono ?_;rintro e w'⟨rfl,rfl⟩;rw[b.o];clear i;go_wp2;go_ret;exact⟨Zai (Zbj h.o (by rw[←g.o];exact Zo3 p (by rw[←f.o];exact b.o))).symm,(Yab _ _).alloc (Yad _) _⟩
    ·have ad:((k:Int)==0)=false:=by rw[Yah];omega
     rcases(show(65<=(c:Int)/\(c:Int)<=90)\/(97<=(c:Int)/\(c:Int)<=122)\/(48<=(c:Int)/\(c:Int)<=57)\/((c:Int)<48)\/(57<(c:Int)/\(c:Int)<65)\/(90<(c:Int)/\(c:Int)<97)\/(122<(c:Int))by omega)with a|a|a|a|a|a|a
     ·obtain⟨a,t⟩:=a;go_wp2;go_roundw
      case rel=>exact⟨k+1,by omega,rfl,by rw[ZcI,j.o,←g.o,Ze8 p (.inl m) (by rw[←f.o];omega)];rfl⟩
      case measure=>simp;omega
     ·obtain⟨a,t⟩:=a;have q:decide ((c:Int)<=90)=false:=by simp;omega
      go_wp2;go_roundw
      case rel=>exact⟨k+1,by omega,rfl,by rw[ZcI,j.o,←g.o,Ze8 p (.inl m) (by rw[←f.o];omega)];rfl⟩
      case measure=>simp;omega
     ·obtain⟨a,t⟩:=a;go_wp2;go_roundw
      case rel=>exact⟨k+1,by omega,rfl,by rw[ZcI,j.o,←g.o,Ze8 p (.inl m) (by rw[←f.o];omega)];rfl⟩
      case measure=>simp;omega
     ·go_wp2;go_ret;exact⟨Zai (Zbj h.o (by rw[←g.o];exact ZeQ p (by rw[←f.o];omega))).symm,(Yab _ _).alloc (Yad _) _⟩
     ·obtain⟨a,t⟩:=a;have r:decide ((c:Int)<=57)=false:=by simp;omega
      go_wp2;go_ret;exact⟨Zai (Zbj h.o (by rw[←g.o];exact ZeQ p (by rw[←f.o];omega))).symm,(Yab _ _).alloc (Yad _) _⟩
     ·obtain⟨a,t⟩:=a;have q:decide ((c:Int)<=90)=false:=by simp;omega
      have r:decide ((c:Int)<=57)=false:=by simp;omega
      go_wp2;go_ret;exact⟨Zai (Zbj h.o (by rw[←g.o];exact ZeQ p (by rw[←f.o];omega))).symm,(Yab _ _).alloc (Yad _) _⟩
     ·have q:decide ((c:Int)<=90)=false:=by simp;omega
      have H:decide ((c:Int)<=122)=false:=by simp;omega
      have r:decide ((c:Int)<=57)=false:=by simp;omega
      go_wp2;go_ret;exact⟨Zai (Zbj h.o (by rw[←g.o];exact ZeQ p (by rw[←f.o];omega))).symm,(Yab _ _).alloc (Yad _) _⟩
   ·have G:=Hd (Zbj (p:=p) h.o (by rw[←g.o];exact ZeQ p (by omega)));clear y;have v:=u.o;clear u;generalize (Utf8.decode (S l) k).2=d at v ab;generalize (Utf8.decode (S l) k).1=F at v L J;have ai:(122:Int)<(F:Int):=by omega
    have q:decide ((F:Int)<=90)=false:=by simp;omega
    have H:decide ((F:Int)<=122)=false:=by simp;omega
    have r:decide ((F:Int)<=57)=false:=by simp;omega
    have b:=Hd (Z.o (F:Int) (by omega));clear L J;by_cases m:k=0
    ·subst m;have i:=aa.o;go_wp2_with fail;refine(s.o _ _).mono ?_;rintro e w'⟨rfl,rfl⟩;rw[b.o];clear i;go_wp2;go_ret;exact⟨Zai G.o.symm,(Yab _ _).alloc (Yad _) _⟩
    ·have ad:((k:Int)==0)=false:=by rw[Yah];omega
     go_wp2;go_ret;exact⟨Zai G.o.symm,(Yab _ _).alloc (Yad _) _⟩
  ·have K:k=l.length:=by have:=Y.o;omega
   have C:Zda p l=true:=by
    unfold Zda;rw[←K,j.o,YaG];have:l≠[]:=ac.o;have:0<l.length:=List.length_pos_iff.2 this;simp;omega
   have Q:=Hd C;have v:∀ty,(Instr.next (.pointer (some ⟨w.heap.size,0,none⟩)) true ty).run prog (w.iter (S l) k)=_:=fun ty=>run_next_end w (S l) k ty (by rw[Zat];omega);clear C K;go_wp2;go_ret;exact⟨Zai Q.o.symm,(Yab _ _).alloc (Yad _) _⟩
theorem Zac {f:FuncId}{b:Func}{c:Code}(h:prog.funcs[f]?=some b)(a:(b.name == "runtime.NumGoroutine")=false)(d:b.body=some c)(args:Array Value)(w:World):(callFunc f args).run prog w=.ok (.enter f args) w:=by
 have g:b.name ≠ "runtime.NumGoroutine" := by simpa using a
 simp[callFunc,h,g,d,mark]
theorem ZqW (l:List UInt8)(w:World)(a:l.length<=9223372036854775807) :
  Calls prog 184 #[.string (S l),.func (.func 185) #[] #[]] w (Said (Zah l) w):=by
 rw[←ZoX];exact Zgh _ upI (Zac func185 (by kernel_rfl) rfl) Zjp (fun c b=>by unfold upI;simp;omega) l w a
theorem Zk4 (l:List UInt8)(w:World)(a:l.length<=9223372036854775807) :
  Calls prog 184 #[.string (S l),.func (.func 214) #[] #[]] w (Said (ZaA l) w):=by
 rw[←ZoW];exact Zgh _ loI (Zac func214 (by kernel_rfl) rfl) ZiX (fun c b=>by unfold loI;simp;omega) l w a
theorem ZqV (l:List UInt8)(w:World)(a:l.length<=9223372036854775807) :
  Calls prog 184 #[.string (S l),.func (.func 221) #[] #[]] w (Said (ZbS l) w):=by
 rw[←ZoV];exact Zgh _ leI (Zac func221 (by kernel_rfl) rfl) Zl0 (fun c b=>by unfold leI upI loI;simp;omega) l w a
theorem ZqT (l:List UInt8)(w:World)(a:l.length<=9223372036854775807) :
  Calls prog 190 #[.string (S l)] w (Said (ZbS l) w):=by
 go_enter func190,ntmps190
 go_wp2_with fail;refine(ZqV l w a).mono ?_;rintro e w'⟨rfl,b⟩;go_wp2;go_ret;exact⟨rfl,b⟩
theorem ZbV (l:List UInt8)(w:World)(a:l.length<=9223372036854775807) :
  Calls prog 120 #[.string (S l)] w (Said (Zah l) w):=by
 go_enter func120,ntmps120
 go_wp2_with fail;refine(ZqW l w a).mono ?_;rintro e w'⟨rfl,b⟩;go_wp2;go_ret;exact⟨rfl,b⟩
theorem ZeT (l:List UInt8)(w:World) :
  Calls prog 178 #[.string (S l)] w fun e w'=>e=.returned (.bool (Zay l))/\w=w':=by
 have a:=Zaf l;by_cases b:l=kInt
 ·have f:((S l).toList==[105,110,116])=true:=by rw[a,b];rfl
  have d:=Hd (show Zay l=true by unfold Zay;simp[b]);clear a b;go_enter func178,ntmps178;go_wp2;go_ret;exact⟨Zai d.o.symm,rfl⟩
 have f:((S l).toList==[105,110,116])=false:=by rw[a,Yah];exact b
 by_cases c:l=ZoC
 ·have g:((S l).toList==[98,111,111,108])=true:=by rw[a,c];rfl
  have d:=Hd (show Zay l=true by unfold Zay;simp[c]);clear a b c;go_enter func178,ntmps178;go_wp2;go_ret;exact⟨Zai d.o.symm,rfl⟩
 have g:((S l).toList==[98,111,111,108])=false:=by rw[a,Yah];exact c
 have d:=Hd (show Zay l=((S l).toList==[116,101,120,116])by
  rw[a];unfold Zay;rw[Yan b,Yan c,YaV,YaV,Ybk,YaP,beq_iff_eq];rfl)
 clear a b c;go_enter func178,ntmps178;go_wp2;go_ret;exact⟨Zai d.o.symm,rfl⟩
def Zeg {α:Type}(R:Zao α)(A:Nat->Prop)(b:Nat)(a:Array Value)(p:α->Bool)(l:List α)(w:World):Prop:=
 ∀(k:Nat) (x:α) (v:Value) (w':World),l[k]?=some x->Below w.heap.size w w'->R A w' x v->Calls prog b (#[v]++a) w' (Said (p x) w')
def Zll (f:Bool)(w:World)(e:Ending)(w':World):Prop:=∃z:Int,e=.returned (.int .i64 z)/\decide (0<=z)=f/\Below w.heap.size w w'
theorem ZlV {A:Nat->Prop}(N:Nat)(g:Array Value)(p:List UInt8->Bool)(l:List (List UInt8))(sv:Value)(w:World)(s:∀args w,(callFunc N args).run prog w=.ok (.enter N args) w)
  (U:Src 1 StrR A w sv l)(M:Zeg StrR A N g p l w)(F:l.length<=9223372036854775807) :
  Calls prog 203 #[sv,.func (.func N) #[] g] w (Zll (l.any p) w):=by
 have Q:=Hd M;have O:=Hd s;clear M s;rcases U with⟨ae,W,rfl,rfl⟩|⟨b,o,aa,rfl,_,L⟩
 ·go_enter func203,ntmps203;go_wp2
  go_loopw [8] (fun r wr=>r=.int .i64 0/\wr=w) (fun _ _=>0)
  case atStart=>exact⟨rfl,rfl⟩
  case round=>
   obtain⟨rfl,rfl⟩:=hrel;go_wp2;go_ret;exact⟨-1,rfl,rfl,Yab _ _⟩
 ·have V:=Hd L;obtain⟨n,E⟩:∃n,n=l.length:=⟨_,rfl⟩
  rw[←E]at F⊢;have H:=Hd E;clear L E;go_enter func203,ntmps203;go_wp2
  go_loopw [8] (fun r wr=>∃k:Nat,k<=n/\r=.int .i64 k/\(l.take k).any p=false/\Below w.heap.size w wr) (fun r _=>n-(intOf r).toNat)
  case atStart=>exact⟨0,Yao _,rfl,by simp,Yab _ _⟩
  case round=>
   obtain⟨k,ad,rfl,f,D⟩:=hrel;have K:=Hd f;have d:=Hd D;clear f D;by_cases ab:k<n
   ·have z:k<l.length:=by have:=H.o;omega
    obtain⟨x,t⟩:∃x,l[k]?=some x:=⟨_,Yaa z⟩
    have h:=Yae (S:=fun _=>False) d.o;obtain⟨v,J,G,C⟩:=V.o k x t;have R:=Hd (StrR.st.keep J h (fun _ _=>id));obtain rfl:=J;have T:wr.cell? ⟨b,o+k,none⟩=some (.string (S x)):=h.cell (a:=⟨b,o+k,none⟩) (by have ac:=C 0 _ rfl;rw[YaH]at ac;exact ac) id;clear C G;have I:=Hd t;have j:=Zap p l k x t;rw[K.o,YaV]at j;have m:=Hd j;clear t z h j;have X:(0:Int)<=k:=by omega
    have Z:(k:Int)<(n:Int):=by omega
    have s:=O.o;go_wp2_with fail;refine(Q.o k x _ wr I.o d.o R.o).mono ?_;rintro e P⟨rfl,y⟩;have B:Below w.heap.size w P:=d.o.trans (y.mono d.o.size);have u:=Hd B;clear y B s T;cases i:p x with
    |true=>
     rw[i]at m;have c:l.any p=true:=by
      rw[YaU];exact⟨x,Yaf I.o,i⟩
     have q:=Hd c;clear i c;go_wp2;go_ret;exact⟨k,rfl,by rw[q.o];simp,u.o⟩
    |false=>
     rw[i]at m;clear i;go_wp2;go_roundw
     case rel=>exact⟨k+1,by omega,by go_num,m.o,u.o⟩
     case measure=>simp[intOf];omega
   ·obtain rfl:k=n:=by omega
    have c:l.any p=false:=by
     have Y:=K.o;rw[H.o,Yaz (Yad _)]at Y;exact Y
    have q:=Hd c;clear c;go_wp2;go_ret;exact⟨-1,rfl,by rw[q.o];rfl,d.o⟩
theorem ZfL {A:Nat->Prop}(i:Nat)(a:Array Value)(p:List UInt8->Bool)(l:List (List UInt8))(sv:Value)(w:World)(j:∀args w,(callFunc i args).run prog w=.ok (.enter i args) w)
  (c:Src 1 StrR A w sv l)(k:Zeg StrR A i a p l w)(b:l.length<=9223372036854775807) :
  Calls prog 150 #[sv,.func (.func i) #[] a] w (Said (l.any p) w):=by
 have d:=Hd (ZlV i a p l sv w j c k b);obtain⟨s,u,rfl⟩:=c.shape;generalize l.any p=f at d⊢;generalize l.length=n at d⊢;clear j c k b;go_enter func150,ntmps150
 go_wp2_with fail;refine d.o.mono ?_;rintro e r⟨z,rfl,h,g⟩;have q:=Hd h;have m:=Hd g;clear h g;go_wp2;go_ret;exact⟨Ya8 (fun t=>Ending.returned (.bool t)) q.o,m.o⟩
theorem Zqc (f:Nat)(a:Array Value)(c:Nat)(x:List UInt8)(v:Value)(m:Bool)(w:World)(k:∀args w,(callFunc f args).run prog w=.ok (.enter f args) w)
  (A:Nat->Prop)(h:World)(i:StrR A h x v)(b:w.cell? ⟨c,0,none⟩=some (.func (.func f) #[] a))(d:∀w',Below w.heap.size w w'->Calls prog f (#[v]++a) w' (Said m w')) :
  Calls prog 186 #[v,.pointer (some ⟨c,0,none⟩)] w (Said (!m) w):=by
 obtain rfl:=i;have j:=Hd d;have l:c<w.heap.size:=World.block_lt_of_cell? w _ b;clear d;go_enter func186,ntmps186
 go_wp2_with fail;refine(j.o _ (Yab _ w)).mono ?_;rintro e n⟨rfl,g⟩;clear b k;go_wp2;go_ret;exact⟨rfl,g⟩
theorem Znr {A:Nat->Prop}(i:Nat)(a:Array Value)(p:List UInt8->Bool)(l:List (List UInt8))(sv:Value)(w:World)(u:∀args w,(callFunc i args).run prog w=.ok (.enter i args) w)
  (m:Src 1 StrR A w sv l)(z:Zeg StrR A i a p l w)(h:l.length<=9223372036854775807) :
  Calls prog 121 #[sv,.func (.func i) #[] a] w (Said (l.all p) w):=by
 have y:=Ymf;rw[ZcO];have d:Hid (∀B:TypeId,Calls prog 150 #[sv,.func (.func 186) #[] #[.pointer (some ⟨w.heap.size,0,none⟩)]] (w.alloc (.cells #[.func (.func i) #[] a] B)) (Said (l.any fun x=>!p x) (w.alloc (.cells #[.func (.func i) #[] a] B)))):=Hd (fun B=>by
  have c:Below w.heap.size w (w.alloc (.cells #[.func (.func i) #[] a] B)):=(Yab _ w).alloc (Yad _) _;refine ZfL (A:=A) 186 _ (fun x=>!p x) l sv _ (Zac func186 (by kernel_rfl) rfl) (StrR.st.below m c) (fun k x v w' E j t=>?_) h;have r:w'.cell? ⟨w.heap.size,0,none⟩=some (.func (.func i) #[] a):=(Yae (S:=fun _=>False) j).cell (by simp) id;have b:Below w.heap.size w w':=c.trans (j.mono c.size);exact Zqc i a w.heap.size x _ (p x) w' u A w' t r (fun s g=>z k x _ s E (b.trans (g.mono b.size)) (StrR.st.keep t (Yae (S:=fun _=>False) g) (fun _ _=>id))))
 obtain⟨G,F,rfl⟩:=m.shape;generalize (l.any fun x=>!p x)=f at d⊢;generalize l.length=n at d⊢;clear u m z h;go_enter func121,ntmps121
 go_wp2_with fail;refine(d.o _).mono ?_;rintro e D⟨rfl,q⟩;have b:Below w.heap.size w D:=((Yab _ w).alloc (Yad _) _).trans (q.mono (by simp));have C:=Hd b;clear q b y;go_wp2;go_ret;exact⟨rfl,C.o⟩
theorem ZlS {A:Nat->Prop}(N:Nat)(i:Array Value)(p:Fld->Bool)(l:List (Fld))(sv:Value)(w:World)(t:∀args w,(callFunc N args).run prog w=.ok (.enter N args) w)
  (W:Src 3 FldR A w sv l)(M:Zeg FldR A N i p l w)(F:l.length<=9223372036854775807) :
  Calls prog 142 #[sv,.func (.func N) #[] i] w (Zll (l.any p) w):=by
 have Q:=Hd M;have O:=Hd t;clear M t;rcases W with⟨af,Y,rfl,rfl⟩|⟨b,o,ac,rfl,_,L⟩
 ·go_enter func142,ntmps142;go_wp2
  go_loopw [8] (fun s wr=>s=.int .i64 0/\wr=w) (fun _ _=>0)
  case atStart=>exact⟨rfl,rfl⟩
  case round=>
   obtain⟨rfl,rfl⟩:=hrel;go_wp2;go_ret;exact⟨-1,rfl,rfl,Yab _ _⟩
 ·have X:=Hd L;obtain⟨n,E⟩:∃n,n=l.length:=⟨_,rfl⟩
  rw[←E]at F⊢;have H:=Hd E;clear L E;go_enter func142,ntmps142;go_wp2
  go_loopw [8] (fun s wr=>∃k:Nat,k<=n/\s=.int .i64 k/\(l.take k).any p=false/\Below w.heap.size w wr) (fun s _=>n-(intOf s).toNat)
  case atStart=>exact⟨0,Yao _,rfl,by simp,Yab _ _⟩
  case round=>
   obtain⟨k,ae,rfl,h,D⟩:=hrel;have K:=Hd h;have g:=Hd D;clear h D;by_cases ad:k<n
   ·have B:k<l.length:=by have:=H.o;omega
    obtain⟨x,u⟩:∃x,l[k]?=some x:=⟨_,Yaa B⟩
    have d:=Yae (S:=fun _=>False) g.o;obtain⟨v,J,G,f⟩:=X.o k x u;have R:=Hd (FldR.st.keep J d (fun _ _=>id));obtain rfl:=J;have T:wr.cell? ⟨b,o+k*3,none⟩=some (.string (S x.name)):=d.cell (a:=⟨b,o+k*3,none⟩) (f 0 _ rfl) id;have V:wr.cell? ⟨b,o+k*3+1,none⟩=some (.string (S x.kind)):=d.cell (a:=⟨b,o+k*3+1,none⟩) (f 1 _ rfl) id;have U:wr.cell? ⟨b,o+k*3+2,none⟩=some (.bool x.tr):=d.cell (a:=⟨b,o+k*3+2,none⟩) (f 2 _ rfl) id;clear f G;have I:=Hd u;have m:=Zap p l k x u;rw[K.o,YaV]at m;have q:=Hd m;clear u B d m;have Z:(0:Int)<=k:=by omega
    have ab:(k:Int)<(n:Int):=by omega
    have t:=O.o;go_wp2_with fail;refine(Q.o k x _ wr I.o g.o R.o).mono ?_;rintro e P⟨rfl,z⟩;have C:Below w.heap.size w P:=g.o.trans (z.mono g.o.size);have y:=Hd C;clear z C t T V U;cases j:p x with
    |true=>
     rw[j]at q;have c:l.any p=true:=by
      rw[YaU];exact⟨x,Yaf I.o,j⟩
     have r:=Hd c;clear j c;go_wp2;go_ret;exact⟨k,rfl,by rw[r.o];simp,y.o⟩
    |false=>
     rw[j]at q;clear j;go_wp2;go_roundw
     case rel=>exact⟨k+1,by omega,by go_num,q.o,y.o⟩
     case measure=>simp[intOf];omega
   ·obtain rfl:k=n:=by omega
    have c:l.any p=false:=by
     have aa:=K.o;rw[H.o,Yaz (Yad _)]at aa;exact aa
    have r:=Hd c;clear c;go_wp2;go_ret;exact⟨-1,rfl,by rw[r.o];rfl,g.o⟩
theorem ZdT {A:Nat->Prop}(i:Nat)(a:Array Value)(p:Fld->Bool)(l:List (Fld))(sv:Value)(w:World)(j:∀args w,(callFunc i args).run prog w=.ok (.enter i args) w)
  (c:Src 3 FldR A w sv l)(k:Zeg FldR A i a p l w)(b:l.length<=9223372036854775807) :
  Calls prog 87 #[sv,.func (.func i) #[] a] w (Said (l.any p) w):=by
 have d:=Hd (ZlS i a p l sv w j c k b);obtain⟨s,u,rfl⟩:=c.shape;generalize l.any p=f at d⊢;generalize l.length=n at d⊢;clear j c k b;go_enter func87,ntmps87
 go_wp2_with fail;refine d.o.mono ?_;rintro e r⟨z,rfl,h,g⟩;have q:=Hd h;have m:=Hd g;clear h g;go_wp2;go_ret;exact⟨Ya8 (fun t=>Ending.returned (.bool t)) q.o,m.o⟩
theorem Zp9 (f:Nat)(a:Array Value)(c:Nat)(x:Fld)(v:Value)(n:Bool)(w:World)(l:∀args w,(callFunc f args).run prog w=.ok (.enter f args) w)
  (A:Nat->Prop)(i:World)(j:FldR A i x v)(b:w.cell? ⟨c,0,none⟩=some (.func (.func f) #[] a))(g:∀w',Below w.heap.size w w'->Calls prog f (#[v]++a) w' (Said n w')) :
  Calls prog 129 #[v,.pointer (some ⟨c,0,none⟩)] w (Said (!n) w):=by
 obtain rfl:=j;have k:=Hd g;have m:c<w.heap.size:=World.block_lt_of_cell? w _ b;have d:∀o:Obj,(w.alloc o).cell? ⟨c,0,none⟩=some (.func (.func f) #[] a):=fun o=>((Yak (fun _=>False) w).alloc o).cell b id;clear b;clear g;go_enter func129,ntmps129
 go_wp2_with fail;refine(k.o _ ((Yab _ w).alloc (Yad _) _)).mono ?_;rintro e p⟨rfl,h⟩;clear d l;go_wp2;go_ret;exact⟨rfl,((Yab _ w).alloc (Yad _) _).trans (h.mono (by simp))⟩
theorem ZrY {A:Nat->Prop}(i:Nat)(a:Array Value)(p:Fld->Bool)(l:List (Fld))(sv:Value)(w:World)(u:∀args w,(callFunc i args).run prog w=.ok (.enter i args) w)
  (m:Src 3 FldR A w sv l)(z:Zeg FldR A i a p l w)(h:l.length<=9223372036854775807) :
  Calls prog 79 #[sv,.func (.func i) #[] a] w (Said (l.all p) w):=by
 have y:=Ymf;rw[ZcO];have d:Hid (∀B:TypeId,Calls prog 87 #[sv,.func (.func 129) #[] #[.pointer (some ⟨w.heap.size,0,none⟩)]] (w.alloc (.cells #[.func (.func i) #[] a] B)) (Said (l.any fun x=>!p x) (w.alloc (.cells #[.func (.func i) #[] a] B)))):=Hd (fun B=>by
  have c:Below w.heap.size w (w.alloc (.cells #[.func (.func i) #[] a] B)):=(Yab _ w).alloc (Yad _) _;refine ZdT (A:=A) 129 _ (fun x=>!p x) l sv _ (Zac func129 (by kernel_rfl) rfl) (FldR.st.below m c) (fun k x v w' E j t=>?_) h;have r:w'.cell? ⟨w.heap.size,0,none⟩=some (.func (.func i) #[] a):=(Yae (S:=fun _=>False) j).cell (by simp) id;have b:Below w.heap.size w w':=c.trans (j.mono c.size);exact Zp9 i a w.heap.size x _ (p x) w' u A w' t r (fun s g=>z k x _ s E (b.trans (g.mono b.size)) (FldR.st.keep t (Yae (S:=fun _=>False) g) (fun _ _=>id))))
 obtain⟨G,F,rfl⟩:=m.shape;generalize (l.any fun x=>!p x)=f at d⊢;generalize l.length=n at d⊢;clear u m z h;go_enter func79,ntmps79
 go_wp2_with fail;refine(d.o _).mono ?_;rintro e D⟨rfl,q⟩;have b:Below w.heap.size w D:=((Yab _ w).alloc (Yad _) _).trans (q.mono (by simp));have C:=Hd b;clear q b y;go_wp2;go_ret;exact⟨rfl,C.o⟩
theorem ZlQ {A:Nat->Prop}(N:Nat)(i:Array Value)(p:Cat->Bool)(l:List (Cat))(sv:Value)(w:World)(t:∀args w,(callFunc N args).run prog w=.ok (.enter N args) w)
  (X:Src 4 CatR A w sv l)(M:Zeg CatR A N i p l w)(F:l.length<=9223372036854775807) :
  Calls prog 240 #[sv,.func (.func N) #[] i] w (Zll (l.any p) w):=by
 have Q:=Hd M;have O:=Hd t;clear M t;rcases X with⟨ag,Z,rfl,rfl⟩|⟨b,o,ad,rfl,_,L⟩
 ·go_enter func240,ntmps240;go_wp2
  go_loopw [8] (fun s wr=>s=.int .i64 0/\wr=w) (fun _ _=>0)
  case atStart=>exact⟨rfl,rfl⟩
  case round=>
   obtain⟨rfl,rfl⟩:=hrel;go_wp2;go_ret;exact⟨-1,rfl,rfl,Yab _ _⟩
 ·have Y:=Hd L;obtain⟨n,E⟩:∃n,n=l.length:=⟨_,rfl⟩
  rw[←E]at F⊢;have H:=Hd E;clear L E;go_enter func240,ntmps240;go_wp2
  go_loopw [8] (fun s wr=>∃k:Nat,k<=n/\s=.int .i64 k/\(l.take k).any p=false/\Below w.heap.size w wr) (fun s _=>n-(intOf s).toNat)
  case atStart=>exact⟨0,Yao _,rfl,by simp,Yab _ _⟩
  case round=>
   obtain⟨k,af,rfl,h,D⟩:=hrel;have K:=Hd h;have g:=Hd D;clear h D;by_cases ae:k<n
   ·have B:k<l.length:=by have:=H.o;omega
    obtain⟨x,u⟩:∃x,l[k]?=some x:=⟨_,Yaa B⟩
    have d:=Yae (S:=fun _=>False) g.o;obtain⟨v,J,G,f⟩:=Y.o k x u;have R:=Hd (CatR.st.keep J d (fun _ _=>id));obtain rfl:=J;have T:wr.cell? ⟨b,o+k*4,none⟩=some (.int .i64 x.fr):=d.cell (a:=⟨b,o+k*4,none⟩) (f 0 _ rfl) id;have W:wr.cell? ⟨b,o+k*4+1,none⟩=some (.int .i64 x.till):=d.cell (a:=⟨b,o+k*4+1,none⟩) (f 1 _ rfl) id;have U:wr.cell? ⟨b,o+k*4+2,none⟩=some (.int .i64 x.at_):=d.cell (a:=⟨b,o+k*4+2,none⟩) (f 2 _ rfl) id;have V:wr.cell? ⟨b,o+k*4+3,none⟩=some (.string (S x.cls)):=d.cell (a:=⟨b,o+k*4+3,none⟩) (f 3 _ rfl) id;clear f G;have I:=Hd u;have m:=Zap p l k x u;rw[K.o,YaV]at m;have q:=Hd m;clear u B d m;have aa:(0:Int)<=k:=by omega
    have ac:(k:Int)<(n:Int):=by omega
    have t:=O.o;go_wp2_with fail;refine(Q.o k x _ wr I.o g.o R.o).mono ?_;rintro e P⟨rfl,z⟩;have C:Below w.heap.size w P:=g.o.trans (z.mono g.o.size);have y:=Hd C;clear z C t T W U V;cases j:p x with
    |true=>
     rw[j]at q;have c:l.any p=true:=by
      rw[YaU];exact⟨x,Yaf I.o,j⟩
     have r:=Hd c;clear j c;go_wp2;go_ret;exact⟨k,rfl,by rw[r.o];simp,y.o⟩
    |false=>
     rw[j]at q;clear j;go_wp2;go_roundw
     case rel=>exact⟨k+1,by omega,by go_num,q.o,y.o⟩
     case measure=>simp[intOf];omega
   ·obtain rfl:k=n:=by omega
    have c:l.any p=false:=by
     have ab:=K.o;rw[H.o,Yaz (Yad _)]at ab;exact ab
    have r:=Hd c;clear c;go_wp2;go_ret;exact⟨-1,rfl,by rw[r.o];rfl,g.o⟩
theorem ZnC {A:Nat->Prop}(i:Nat)(a:Array Value)(p:Cat->Bool)(l:List (Cat))(sv:Value)(w:World)(j:∀args w,(callFunc i args).run prog w=.ok (.enter i args) w)
  (c:Src 4 CatR A w sv l)(k:Zeg CatR A i a p l w)(b:l.length<=9223372036854775807) :
  Calls prog 225 #[sv,.func (.func i) #[] a] w (Said (l.any p) w):=by
 have d:=Hd (ZlQ i a p l sv w j c k b);obtain⟨s,u,rfl⟩:=c.shape;generalize l.any p=f at d⊢;generalize l.length=n at d⊢;clear j c k b;go_enter func225,ntmps225
 go_wp2_with fail;refine d.o.mono ?_;rintro e r⟨z,rfl,h,g⟩;have q:=Hd h;have m:=Hd g;clear h g;go_wp2;go_ret;exact⟨Ya8 (fun t=>Ending.returned (.bool t)) q.o,m.o⟩
theorem Zp8 (f:Nat)(a:Array Value)(c:Nat)(x:Cat)(v:Value)(n:Bool)(w:World)(l:∀args w,(callFunc f args).run prog w=.ok (.enter f args) w)
  (A:Nat->Prop)(i:World)(j:CatR A i x v)(b:w.cell? ⟨c,0,none⟩=some (.func (.func f) #[] a))(g:∀w',Below w.heap.size w w'->Calls prog f (#[v]++a) w' (Said n w')) :
  Calls prog 226 #[v,.pointer (some ⟨c,0,none⟩)] w (Said (!n) w):=by
 obtain rfl:=j;have k:=Hd g;have m:c<w.heap.size:=World.block_lt_of_cell? w _ b;have d:∀o:Obj,(w.alloc o).cell? ⟨c,0,none⟩=some (.func (.func f) #[] a):=fun o=>((Yak (fun _=>False) w).alloc o).cell b id;clear b;clear g;go_enter func226,ntmps226
 go_wp2_with fail;refine(k.o _ ((Yab _ w).alloc (Yad _) _)).mono ?_;rintro e p⟨rfl,h⟩;clear d l;go_wp2;go_ret;exact⟨rfl,((Yab _ w).alloc (Yad _) _).trans (h.mono (by simp))⟩
theorem ZrX {A:Nat->Prop}(i:Nat)(a:Array Value)(p:Cat->Bool)(l:List (Cat))(sv:Value)(w:World)(u:∀args w,(callFunc i args).run prog w=.ok (.enter i args) w)
  (m:Src 4 CatR A w sv l)(z:Zeg CatR A i a p l w)(h:l.length<=9223372036854775807) :
  Calls prog 193 #[sv,.func (.func i) #[] a] w (Said (l.all p) w):=by
 have y:=Ymf;rw[ZcO];have d:Hid (∀B:TypeId,Calls prog 225 #[sv,.func (.func 226) #[] #[.pointer (some ⟨w.heap.size,0,none⟩)]] (w.alloc (.cells #[.func (.func i) #[] a] B)) (Said (l.any fun x=>!p x) (w.alloc (.cells #[.func (.func i) #[] a] B)))):=Hd (fun B=>by
  have c:Below w.heap.size w (w.alloc (.cells #[.func (.func i) #[] a] B)):=(Yab _ w).alloc (Yad _) _;refine ZnC (A:=A) 226 _ (fun x=>!p x) l sv _ (Zac func226 (by kernel_rfl) rfl) (CatR.st.below m c) (fun k x v w' E j t=>?_) h;have r:w'.cell? ⟨w.heap.size,0,none⟩=some (.func (.func i) #[] a):=(Yae (S:=fun _=>False) j).cell (by simp) id;have b:Below w.heap.size w w':=c.trans (j.mono c.size);exact Zp8 i a w.heap.size x _ (p x) w' u A w' t r (fun s g=>z k x _ s E (b.trans (g.mono b.size)) (CatR.st.keep t (Yae (S:=fun _=>False) g) (fun _ _=>id))))
 obtain⟨G,F,rfl⟩:=m.shape;generalize (l.any fun x=>!p x)=f at d⊢;generalize l.length=n at d⊢;clear u m z h;go_enter func193,ntmps193
 go_wp2_with fail;refine(d.o _).mono ?_;rintro e D⟨rfl,q⟩;have b:Below w.heap.size w D:=((Yab _ w).alloc (Yad _) _).trans (q.mono (by simp));have C:=Hd b;clear q b y;go_wp2;go_ret;exact⟨rfl,C.o⟩
