/- laws -/
import Derived.Test.YtggcdinoflchjaaGreatDoorK02
set_option maxRecDepth 100000
set_option maxHeartbeats 16000000
namespace Go.Proofs.YtggcdinoflchjaaGreatDoor
open Go.RowKit
def Said (b:Bool) (w:World) (e:Ending) (w':World):Prop:=e=.returned (.bool b)/\Below w.heap.size w w'
theorem Zef (p:Int->Bool) {k:Nat} {c:UInt8} (b:¬ ((97<=c.toNat/\c.toNat<=122)\/(65<=c.toNat/\c.toNat<=90)\/(48<=c.toNat/\c.toNat<=57))):okP p k c=false:=by
 unfold okP Zb6 Zdv;cases a:(decide (97<=c.toNat) && decide (c.toNat<=122) || decide (65<=c.toNat) && decide (c.toNat<=90) || decide (48<=c.toNat) && decide (c.toNat<=57)) with
 | false=>rw [Ycl]
 | true=>
  exfalso
  apply b
  simp only [YaX,Yar,YaO] at a;omega
theorem Zev (p:Int->Bool) {k:Nat} {c:UInt8} (a:k ≠ 0\/p c.toNat=true) (b:(97<=c.toNat/\c.toNat<=122)\/(65<=c.toNat/\c.toNat<=90)\/(48<=c.toNat/\c.toNat<=57)):okP p k c=true:=by
 unfold okP Zb6 Zdv;rw [Yar];constructor
 ·rcases a with a|a
  ·simp [a]
  ·simp [a]
 ·simp only [YaX,Yar,YaO];omega
theorem Zm1 (p:Int->Bool) {c:UInt8} (a:p c.toNat=false):okP p 0 c=false:=by
 unfold okP;simp [a]
theorem Zfm (ag:Nat) (p:Int->Bool) (i:∀ args w,(callFunc ag args).run Tryz.prog w=.ok (.enter ag args) w)
  (ab:∀ (C:Int) (w:World),Calls Tryz.prog ag #[.int .i32 C] w fun e w'=>e=.returned (.bool (p C))/\w=w') (J:∀ C:Int,128<=C->p C=false)
  (l:List UInt8) (w:World) (R:l.length<=9223372036854775807) :
  Calls Tryz.prog 205 #[.string (S l),.func (.func ag) #[] #[]] w (Said (ZcU p l) w):=by
 have X:((S l).size:Int)=(l.length:Int):=by rw [Zay]
 have ac:=Hd J;have t:=Hd ab;have aa:=Hd i;clear J ab i;by_cases E:l=[]
 ·subst E;rw [ZiN];have W:(S []).toList=[]:=Zae [];go_enter Tryz.func205,Tryz.ntmps205;go_wp2;go_ret;exact ⟨rfl,Yab _ _⟩
 have W:(!(S l).toList.isEmpty)=true:=by rw [Zae];simp [E]
 have ah:((S l).toList == [])=false:=by rw [Zae];simpa using E
 by_cases N:32<l.length
 ·rw [ZiM N];have D:(32:Int)<(l.length:Int):=by omega
  go_enter Tryz.func205,Tryz.ntmps205;go_wp2;go_ret;exact ⟨rfl,Yab _ _⟩
 have D:(l.length:Int)<=32:=by omega
 have V:=Hd E;clear E;obtain ⟨n,T⟩:∃ n,n=l.length:=⟨_,rfl⟩
 rw [←T] at X D R;have Y:=Hd T;clear T N;go_enter Tryz.func205,Tryz.ntmps205;go_wp2;clear W ah
 go_loopw [5] (fun _ w'=>∃ k:Nat,k<=n/\w'=w.iter (S l) k/\Zfn p l k=true) (fun _ w'=>n - w'.iterPos w.heap.size)
 case atStart=>exact ⟨0,Yai _,rfl,Zkz p l⟩
 case round=>
  obtain ⟨k,ak,rfl,M⟩:=hrel;have j:=Hd M;clear M;by_cases aj:k<n
  ·have z:k<l.length:=by have:=Y.o;omega
   have B:k<(S l).size:=by rw [Zay];exact z
   obtain ⟨x,U⟩:∃ x,x=l.getD k 0:=⟨_,rfl⟩
   have g:=Hd U;have af:=Zqb l k z B;have v:=Hd (fun ty=>run_next_any (P:=Tryz.prog) w (S l) k ty B);rw [←U] at af;have h:=Hd z;clear U z B;rcases af with ⟨y,Z⟩|⟨y,I,L,ad⟩
   ·rw [Z] at v;clear Z;have u:=v.o;clear v;obtain ⟨c,Q⟩:∃ c,c=x.toNat:=⟨_,rfl⟩
    have f:=Hd Q;rw [←Q] at u y;clear Q;by_cases r:k=0
    ·subst r;have i:=aa.o;cases A:p (c:Int) with
     | true=>
      have b:=Hd A;clear A;rcases (show (65<=(c:Int)/\(c:Int)<=90)\/(97<=(c:Int)/\(c:Int)<=122)\/(48<=(c:Int)/\(c:Int)<=57)\/((c:Int)<48)\/(57<(c:Int)/\(c:Int)<65)\/(90<(c:Int)/\(c:Int)<97)\/(122<(c:Int)) by omega) with a|a|a|a|a|a|a
      ·obtain ⟨a,s⟩:=a
       go_wp2_with fail
       refine (t.o _ _).mono ?_;rintro e w' ⟨rfl,rfl⟩;rw [b.o];clear i;go_wp2
       go_roundw
       case rel=>exact ⟨1,by omega,rfl,by rw [show 1=0+1 from rfl,Zcu,j.o,←g.o,Zev p (.inr (by rw [←f.o];exact b.o)) (by rw [←f.o];omega)];rfl⟩
       case measure=>simp;omega
      ·obtain ⟨a,s⟩:=a;have q:decide ((c:Int)<=90)=false:=by simp;omega
       go_wp2_with fail
       refine (t.o _ _).mono ?_;rintro e w' ⟨rfl,rfl⟩;rw [b.o];clear i;go_wp2
       go_roundw
       case rel=>exact ⟨1,by omega,rfl,by rw [show 1=0+1 from rfl,Zcu,j.o,←g.o,Zev p (.inr (by rw [←f.o];exact b.o)) (by rw [←f.o];omega)];rfl⟩
       case measure=>simp;omega
      ·obtain ⟨a,s⟩:=a
       go_wp2_with fail
       refine (t.o _ _).mono ?_;rintro e w' ⟨rfl,rfl⟩;rw [b.o];clear i;go_wp2
       go_roundw
       case rel=>exact ⟨1,by omega,rfl,by rw [show 1=0+1 from rfl,Zcu,j.o,←g.o,Zev p (.inr (by rw [←f.o];exact b.o)) (by rw [←f.o];omega)];rfl⟩
       case measure=>simp;omega
      ·go_wp2_with fail
       refine (t.o _ _).mono ?_;rintro e w' ⟨rfl,rfl⟩;rw [b.o];clear i;go_wp2;go_ret;exact ⟨Zan (Za7 h.o (by rw [←g.o];exact Zef p (by rw [←f.o];omega))).symm,(Yab _ _).alloc (Yac _) _⟩
      ·obtain ⟨a,s⟩:=a;have m:decide ((c:Int)<=57)=false:=by simp;omega
       go_wp2_with fail
       refine (t.o _ _).mono ?_;rintro e w' ⟨rfl,rfl⟩;rw [b.o];clear i;go_wp2;go_ret;exact ⟨Zan (Za7 h.o (by rw [←g.o];exact Zef p (by rw [←f.o];omega))).symm,(Yab _ _).alloc (Yac _) _⟩
      ·obtain ⟨a,s⟩:=a;have q:decide ((c:Int)<=90)=false:=by simp;omega
       have m:decide ((c:Int)<=57)=false:=by simp;omega
       go_wp2_with fail
       refine (t.o _ _).mono ?_;rintro e w' ⟨rfl,rfl⟩;rw [b.o];clear i;go_wp2;go_ret;exact ⟨Zan (Za7 h.o (by rw [←g.o];exact Zef p (by rw [←f.o];omega))).symm,(Yab _ _).alloc (Yac _) _⟩
      ·have q:decide ((c:Int)<=90)=false:=by simp;omega
       have G:decide ((c:Int)<=122)=false:=by simp;omega
       have m:decide ((c:Int)<=57)=false:=by simp;omega
       go_wp2_with fail
       refine (t.o _ _).mono ?_;rintro e w' ⟨rfl,rfl⟩;rw [b.o];clear i;go_wp2;go_ret;exact ⟨Zan (Za7 h.o (by rw [←g.o];exact Zef p (by rw [←f.o];omega))).symm,(Yab _ _).alloc (Yac _) _⟩
     | false=>
      have b:=Hd A;clear A
      go_wp2_with fail
      refine (t.o _ _).mono ?_;rintro e w' ⟨rfl,rfl⟩;rw [b.o];clear i;go_wp2;go_ret;exact ⟨Zan (Za7 h.o (by rw [←g.o];exact Zm1 p (by rw [←f.o];exact b.o))).symm,(Yab _ _).alloc (Yac _) _⟩
    ·have ae:((k:Int) == 0)=false:=by rw [Yah];omega
     rcases (show (65<=(c:Int)/\(c:Int)<=90)\/(97<=(c:Int)/\(c:Int)<=122)\/(48<=(c:Int)/\(c:Int)<=57)\/((c:Int)<48)\/(57<(c:Int)/\(c:Int)<65)\/(90<(c:Int)/\(c:Int)<97)\/(122<(c:Int)) by omega) with a|a|a|a|a|a|a
     ·obtain ⟨a,s⟩:=a;go_wp2
      go_roundw
      case rel=>exact ⟨k+1,by omega,rfl,by rw [Zcu,j.o,←g.o,Zev p (.inl r) (by rw [←f.o];omega)];rfl⟩
      case measure=>simp;omega
     ·obtain ⟨a,s⟩:=a;have q:decide ((c:Int)<=90)=false:=by simp;omega
      go_wp2
      go_roundw
      case rel=>exact ⟨k+1,by omega,rfl,by rw [Zcu,j.o,←g.o,Zev p (.inl r) (by rw [←f.o];omega)];rfl⟩
      case measure=>simp;omega
     ·obtain ⟨a,s⟩:=a;go_wp2
      go_roundw
      case rel=>exact ⟨k+1,by omega,rfl,by rw [Zcu,j.o,←g.o,Zev p (.inl r) (by rw [←f.o];omega)];rfl⟩
      case measure=>simp;omega
     ·go_wp2;go_ret;exact ⟨Zan (Za7 h.o (by rw [←g.o];exact Zef p (by rw [←f.o];omega))).symm,(Yab _ _).alloc (Yac _) _⟩
     ·obtain ⟨a,s⟩:=a;have m:decide ((c:Int)<=57)=false:=by simp;omega
      go_wp2;go_ret;exact ⟨Zan (Za7 h.o (by rw [←g.o];exact Zef p (by rw [←f.o];omega))).symm,(Yab _ _).alloc (Yac _) _⟩
     ·obtain ⟨a,s⟩:=a;have q:decide ((c:Int)<=90)=false:=by simp;omega
      have m:decide ((c:Int)<=57)=false:=by simp;omega
      go_wp2;go_ret;exact ⟨Zan (Za7 h.o (by rw [←g.o];exact Zef p (by rw [←f.o];omega))).symm,(Yab _ _).alloc (Yac _) _⟩
     ·have q:decide ((c:Int)<=90)=false:=by simp;omega
      have G:decide ((c:Int)<=122)=false:=by simp;omega
      have m:decide ((c:Int)<=57)=false:=by simp;omega
      go_wp2;go_ret;exact ⟨Zan (Za7 h.o (by rw [←g.o];exact Zef p (by rw [←f.o];omega))).symm,(Yab _ _).alloc (Yac _) _⟩
   ·have F:=Hd (Za7 (p:=p) h.o (by rw [←g.o];exact Zef p (by omega)));clear y;have u:=v.o;clear v;generalize (Utf8.decode (S l) k).2=d at u ad;generalize (Utf8.decode (S l) k).1=C at u I L;have ai:(122:Int)<(C:Int):=by omega
    have q:decide ((C:Int)<=90)=false:=by simp;omega
    have G:decide ((C:Int)<=122)=false:=by simp;omega
    have m:decide ((C:Int)<=57)=false:=by simp;omega
    have b:=Hd (ac.o (C:Int) (by omega));clear I L;by_cases r:k=0
    ·subst r;have i:=aa.o
     go_wp2_with fail
     refine (t.o _ _).mono ?_;rintro e w' ⟨rfl,rfl⟩;rw [b.o];clear i;go_wp2;go_ret;exact ⟨Zan F.o.symm,(Yab _ _).alloc (Yac _) _⟩
    ·have ae:((k:Int) == 0)=false:=by rw [Yah];omega
     go_wp2;go_ret;exact ⟨Zan F.o.symm,(Yab _ _).alloc (Yac _) _⟩
  ·have K:k=l.length:=by have:=Y.o;omega
   have H:ZcU p l=true:=by
    unfold ZcU;rw [←K,j.o,Yax];have:l ≠ []:=V.o;have:0<l.length:=List.length_pos_iff.2 this;simp
    omega
   have O:=Hd H;have u:∀ ty,(Instr.next (.pointer (some ⟨w.heap.size,0,none⟩)) true ty).run Tryz.prog (w.iter (S l) k)=_:=fun ty=>run_next_end w (S l) k ty (by rw [Zay];omega)
   clear H K;go_wp2;go_ret;exact ⟨Zan O.o.symm,(Yab _ _).alloc (Yac _) _⟩
theorem Zai {f : FuncId} {b : Func} {c : Code} (h : Tryz.prog.funcs[f]? = some b) (a : (b.name == "runtime.NumGoroutine") = false) (g : b.body = some c) (args : Array Value) (w : World) : (callFunc f args).run Tryz.prog w = .ok (.enter f args) w := by
 have d : b.name ≠ "runtime.NumGoroutine" := by simpa using a
 simp [callFunc,h,d,g,mark]
theorem ZoI (l:List UInt8) (w:World) (a:l.length<=9223372036854775807) :
  Calls Tryz.prog 205 #[.string (S l),.func (.func 206) #[] #[]] w (Said (Zal l) w):=by
 rw [←ZmZ];exact Zfm _ upI (Zai Tryz.func206 (by kernel_rfl) rfl) Zh4 (fun b c=>by unfold upI;simp;omega) l w a
theorem Zjw (l:List UInt8) (w:World) (a:l.length<=9223372036854775807) :
  Calls Tryz.prog 205 #[.string (S l),.func (.func 233) #[] #[]] w (Said (ZaC l) w):=by
 rw [←ZmY];exact Zfm _ loI (Zai Tryz.func233 (by kernel_rfl) rfl) ZhG (fun b c=>by unfold loI;simp;omega) l w a
theorem ZoH (l:List UInt8) (w:World) (a:l.length<=9223372036854775807) :
  Calls Tryz.prog 205 #[.string (S l),.func (.func 238) #[] #[]] w (Said (ZbJ l) w):=by
 rw [←ZmX];exact Zfm _ leI (Zai Tryz.func238 (by kernel_rfl) rfl) Zkm (fun b c=>by unfold leI upI loI;simp;omega) l w a
theorem ZoF (l:List UInt8) (w:World) (a:l.length<=9223372036854775807) :
  Calls Tryz.prog 211 #[.string (S l)] w (Said (ZbJ l) w):=by
 go_enter Tryz.func211,Tryz.ntmps211
 go_wp2_with fail
 refine (ZoH l w a).mono ?_;rintro e w' ⟨rfl,b⟩;go_wp2;go_ret;exact ⟨rfl,b⟩
theorem ZbM (l:List UInt8) (w:World) (a:l.length<=9223372036854775807) :
  Calls Tryz.prog 149 #[.string (S l)] w (Said (Zal l) w):=by
 go_enter Tryz.func149,Tryz.ntmps149
 go_wp2_with fail
 refine (ZoI l w a).mono ?_;rintro e w' ⟨rfl,b⟩;go_wp2;go_ret;exact ⟨rfl,b⟩
theorem Zfr (l:List UInt8) (w:World) :
  Calls Tryz.prog 98 #[.string (S l)] w fun e w'=>e=.returned (.bool (ZaB l))/\w=w':=by
 have a:=Zae l;by_cases b:l=kInt
 ·have g:((S l).toList == [105,110,116])=true:=by rw [a,b];rfl
  have d:=Hd (show ZaB l=true by unfold ZaB;simp [b]);clear a b;go_enter Tryz.func98,Tryz.ntmps98;go_wp2;go_ret;exact ⟨Zan d.o.symm,rfl⟩
 have g:((S l).toList == [105,110,116])=false:=by rw [a,Yah];exact b
 by_cases c:l=ZmE
 ·have f:((S l).toList == [98,111,111,108])=true:=by rw [a,c];rfl
  have d:=Hd (show ZaB l=true by unfold ZaB;simp [c]);clear a b c;go_enter Tryz.func98,Tryz.ntmps98;go_wp2;go_ret;exact ⟨Zan d.o.symm,rfl⟩
 have f:((S l).toList == [98,111,111,108])=false:=by rw [a,Yah];exact c
 have d:=Hd (show ZaB l=((S l).toList == [116,101,120,116]) by
  rw [a];unfold ZaB;rw [Yaj b,Yaj c,YaS,YaS,Ybk,YaO,beq_iff_eq];rfl)
 clear a b c;go_enter Tryz.func98,Tryz.ntmps98;go_wp2;go_ret;exact ⟨Zan d.o.symm,rfl⟩
def ZdT {α:Type} (R:Zao α) (A:Nat->Prop) (b:Nat) (a:Array Value) (p:α->Bool) (l:List α) (w:World):Prop:=
 ∀ (k:Nat) (x:α) (v:Value) (w':World),l[k]? = some x->Below w.heap.size w w'->R A w' x v->Calls Tryz.prog b (#[v]++a) w' (Said (p x) w')
def ZjH (f:Bool) (w:World) (e:Ending) (w':World):Prop:=∃ z:Int,e=.returned (.int .i64 z)/\decide (0<=z)=f/\Below w.heap.size w w'
theorem Zki {A:Nat->Prop} (N:Nat) (q:Array Value) (p:List UInt8->Bool) (l:List (List UInt8)) (sv:Value) (w:World) (s:∀ args w,(callFunc N args).run Tryz.prog w=.ok (.enter N args) w)
  (T:Src 1 StrR A w sv l) (L:ZdT StrR A N q p l w) (E:l.length<=9223372036854775807) :
  Calls Tryz.prog 224 #[sv,.func (.func N) #[] q] w (ZjH (l.any p) w):=by
 have Q:=Hd L;have R:=Hd s;clear L s;rcases T with ⟨ae,Y,rfl,rfl⟩|⟨b,o,ac,rfl,_,G⟩
 ·go_enter Tryz.func224,Tryz.ntmps224;go_wp2
  go_loopw [8] (fun r wr=>r=.int .i64 0/\wr=w) (fun _ _=>0)
  case atStart=>exact ⟨rfl,rfl⟩
  case round=>
   obtain ⟨rfl,rfl⟩:=hrel;go_wp2;go_ret;exact ⟨-1,rfl,rfl,Yab _ _⟩
 ·have V:=Hd G;obtain ⟨n,F⟩:∃ n,n=l.length:=⟨_,rfl⟩
  rw [←F] at E ⊢;have K:=Hd F;clear G F;go_enter Tryz.func224,Tryz.ntmps224;go_wp2
  go_loopw [8] (fun r wr=>∃ k:Nat,k<=n/\r=.int .i64 k/\(l.take k).any p=false/\Below w.heap.size w wr) (fun r _=>n - (intOf r).toNat)
  case atStart=>exact ⟨0,Yai _,rfl,by simp,Yab _ _⟩
  case round=>
   obtain ⟨k,ad,rfl,i,y⟩:=hrel;have I:=Hd i;have d:=Hd y;clear i y;by_cases aa:k<n
   ·have z:k<l.length:=by have:=K.o;omega
    obtain ⟨x,t⟩:∃ x,l[k]? = some x:=⟨_,Yaa z⟩
    have m:=Yad (S:=fun _=>False) d.o;obtain ⟨v,J,H,C⟩:=V.o k x t;have U:=Hd (StrR.st.keep J m (fun _ _=>id));obtain rfl:=J;have P:wr.cell? ⟨b,o+k,none⟩=some (.string (S x)):=m.cell (a:=⟨b,o+k,none⟩) (by have W:=C 0 _ rfl;rw [YaG] at W;exact W) id;clear C H;have M:=Hd t;have j:=Zah p l k x t;rw [I.o,YaS] at j;have h:=Hd j;clear t z m j;have ab:(0:Int)<=k:=by omega
    have Z:(k:Int)<(n:Int):=by omega
    have s:=R.o
    go_wp2_with fail
    refine (Q.o k x _ wr M.o d.o U.o).mono ?_;rintro e O ⟨rfl,u⟩;have B:Below w.heap.size w O:=d.o.trans (u.mono d.o.size);have D:=Hd B;clear u B s P;cases f:p x with
    | true=>
     rw [f] at h;have c:l.any p=true:=by
      rw [YaQ];exact ⟨x,Yaf M.o,f⟩
     have g:=Hd c;clear f c;go_wp2;go_ret;exact ⟨k,rfl,by rw [g.o];simp,D.o⟩
    | false=>
     rw [f] at h;clear f;go_wp2
     go_roundw
     case rel=>exact ⟨k+1,by omega,by go_num,h.o,D.o⟩
     case measure=>simp [intOf];omega
   ·obtain rfl:k=n:=by omega
    have c:l.any p=false:=by
     have X:=I.o;rw [K.o,Yaw (Yac _)] at X;exact X
    have g:=Hd c;clear c;go_wp2;go_ret;exact ⟨-1,rfl,by rw [g.o];rfl,d.o⟩
theorem ZeX {A:Nat->Prop} (j:Nat) (a:Array Value) (p:List UInt8->Bool) (l:List (List UInt8)) (sv:Value) (w:World) (k:∀ args w,(callFunc j args).run Tryz.prog w=.ok (.enter j args) w)
  (c:Src 1 StrR A w sv l) (i:ZdT StrR A j a p l w) (b:l.length<=9223372036854775807) :
  Calls Tryz.prog 177 #[sv,.func (.func j) #[] a] w (Said (l.any p) w):=by
 have d:=Hd (Zki j a p l sv w k c i b);obtain ⟨t,u,rfl⟩:=c.shape;generalize l.any p=f at d ⊢;generalize l.length=n at d ⊢;clear k c i b;go_enter Tryz.func177,Tryz.ntmps177
 go_wp2_with fail
 refine d.o.mono ?_;rintro e s ⟨z,rfl,g,h⟩;have m:=Hd g;have q:=Hd h;clear g h;go_wp2;go_ret;exact ⟨Ya5 (fun r=>Ending.returned (.bool r)) m.o,q.o⟩
theorem Zn7 (f:Nat) (a:Array Value) (c:Nat) (x:List UInt8) (v:Value) (m:Bool) (w:World) (j:∀ args w,(callFunc f args).run Tryz.prog w=.ok (.enter f args) w)
  (A:Nat->Prop) (k:World) (g:StrR A k x v) (d:w.cell? ⟨c,0,none⟩=some (.func (.func f) #[] a)) (b:∀ w',Below w.heap.size w w'->Calls Tryz.prog f (#[v]++a) w' (Said m w')) :
  Calls Tryz.prog 207 #[v,.pointer (some ⟨c,0,none⟩)] w (Said (!m) w):=by
 obtain rfl:=g;have i:=Hd b;have l:c<w.heap.size:=World.block_lt_of_cell? w _ d;clear b;go_enter Tryz.func207,Tryz.ntmps207
 go_wp2_with fail
 refine (i.o _ (Yab _ w)).mono ?_;rintro e n ⟨rfl,h⟩;clear d j;go_wp2;go_ret;exact ⟨rfl,h⟩
theorem ZlE {A:Nat->Prop} (i:Nat) (a:Array Value) (p:List UInt8->Bool) (l:List (List UInt8)) (sv:Value) (w:World) (C:∀ args w,(callFunc i args).run Tryz.prog w=.ok (.enter i args) w)
  (q:Src 1 StrR A w sv l) (B:ZdT StrR A i a p l w) (c:l.length<=9223372036854775807) :
  Calls Tryz.prog 150 #[sv,.func (.func i) #[] a] w (Said (l.all p) w):=by
 have s:∀ (t:Fn) (first m:Array Value) (w:World),(Instr.makeFunc t first m).run Tryz.prog w=.ok (.func t first m) w:=fun _ _ _ _=>rfl
 rw [Zcz];have g:Hid (∀ D:TypeId,Calls Tryz.prog 177 #[sv,.func (.func 207) #[] #[.pointer (some ⟨w.heap.size,0,none⟩)]] (w.alloc (.cells #[.func (.func i) #[] a] D)) (Said (l.any fun x=>!p x) (w.alloc (.cells #[.func (.func i) #[] a] D)))):=Hd (fun D=>by
  have h:Below w.heap.size w (w.alloc (.cells #[.func (.func i) #[] a] D)):=(Yab _ w).alloc (Yac _) _;refine ZeX (A:=A) 207 _ (fun x=>!p x) l sv _ (Zai Tryz.func207 (by kernel_rfl) rfl) (StrR.st.below q h) (fun k x v w' G j y=>?_) c;have z:w'.cell? ⟨w.heap.size,0,none⟩=some (.func (.func i) #[] a):=(Yad (S:=fun _=>False) j).cell (by simp) id;have b:Below w.heap.size w w':=h.trans (j.mono h.size);exact Zn7 i a w.heap.size x _ (p x) w' C A w' y z (fun u d=>B k x _ u G (b.trans (d.mono b.size)) (StrR.st.keep y (Yad (S:=fun _=>False) d) (fun _ _=>id))))
 obtain ⟨I,H,rfl⟩:=q.shape;generalize (l.any fun x=>!p x)=f at g ⊢;generalize l.length=n at g ⊢;clear C q B c;go_enter Tryz.func150,Tryz.ntmps150
 go_wp2_with fail
 refine (g.o _).mono ?_;rintro e E ⟨rfl,r⟩;have b:Below w.heap.size w E:=((Yab _ w).alloc (Yac _) _).trans (r.mono (by simp));have F:=Hd b;clear r b s;go_wp2;go_ret;exact ⟨rfl,F.o⟩
theorem Zkf {A:Nat->Prop} (N:Nat) (r:Array Value) (p:Fld->Bool) (l:List (Fld)) (sv:Value) (w:World) (t:∀ args w,(callFunc N args).run Tryz.prog w=.ok (.enter N args) w)
  (U:Src 3 FldR A w sv l) (L:ZdT FldR A N r p l w) (E:l.length<=9223372036854775807) :
  Calls Tryz.prog 171 #[sv,.func (.func N) #[] r] w (ZjH (l.any p) w):=by
 have R:=Hd L;have T:=Hd t;clear L t;rcases U with ⟨af,Z,rfl,rfl⟩|⟨b,o,ad,rfl,_,G⟩
 ·go_enter Tryz.func171,Tryz.ntmps171;go_wp2
  go_loopw [8] (fun s wr=>s=.int .i64 0/\wr=w) (fun _ _=>0)
  case atStart=>exact ⟨rfl,rfl⟩
  case round=>
   obtain ⟨rfl,rfl⟩:=hrel;go_wp2;go_ret;exact ⟨-1,rfl,rfl,Yab _ _⟩
 ·have W:=Hd G;obtain ⟨n,F⟩:∃ n,n=l.length:=⟨_,rfl⟩
  rw [←F] at E ⊢;have K:=Hd F;clear G F;go_enter Tryz.func171,Tryz.ntmps171;go_wp2
  go_loopw [8] (fun s wr=>∃ k:Nat,k<=n/\s=.int .i64 k/\(l.take k).any p=false/\Below w.heap.size w wr) (fun s _=>n - (intOf s).toNat)
  case atStart=>exact ⟨0,Yai _,rfl,by simp,Yab _ _⟩
  case round=>
   obtain ⟨k,ae,rfl,m,z⟩:=hrel;have I:=Hd m;have g:=Hd z;clear m z;by_cases ab:k<n
   ·have B:k<l.length:=by have:=K.o;omega
    obtain ⟨x,u⟩:∃ x,l[k]? = some x:=⟨_,Yaa B⟩
    have d:=Yad (S:=fun _=>False) g.o;obtain ⟨v,J,H,f⟩:=W.o k x u;have V:=Hd (FldR.st.keep J d (fun _ _=>id));obtain rfl:=J;have P:wr.cell? ⟨b,o+k * 3,none⟩=some (.string (S x.name)):=d.cell (a:=⟨b,o+k * 3,none⟩) (f 0 _ rfl) id;have Q:wr.cell? ⟨b,o+k * 3+1,none⟩=some (.string (S x.kind)):=d.cell (a:=⟨b,o+k * 3+1,none⟩) (f 1 _ rfl) id;have X:wr.cell? ⟨b,o+k * 3+2,none⟩=some (.bool x.tr):=d.cell (a:=⟨b,o+k * 3+2,none⟩) (f 2 _ rfl) id;clear f H;have M:=Hd u;have q:=Zah p l k x u;rw [I.o,YaS] at q;have j:=Hd q;clear u B d q;have ac:(0:Int)<=k:=by omega
    have aa:(k:Int)<(n:Int):=by omega
    have t:=T.o
    go_wp2_with fail
    refine (R.o k x _ wr M.o g.o V.o).mono ?_;rintro e O ⟨rfl,y⟩;have C:Below w.heap.size w O:=g.o.trans (y.mono g.o.size);have D:=Hd C;clear y C t P Q X;cases h:p x with
    | true=>
     rw [h] at j;have c:l.any p=true:=by
      rw [YaQ];exact ⟨x,Yaf M.o,h⟩
     have i:=Hd c;clear h c;go_wp2;go_ret;exact ⟨k,rfl,by rw [i.o];simp,D.o⟩
    | false=>
     rw [h] at j;clear h;go_wp2
     go_roundw
     case rel=>exact ⟨k+1,by omega,by go_num,j.o,D.o⟩
     case measure=>simp [intOf];omega
   ·obtain rfl:k=n:=by omega
    have c:l.any p=false:=by
     have Y:=I.o;rw [K.o,Yaw (Yac _)] at Y;exact Y
    have i:=Hd c;clear c;go_wp2;go_ret;exact ⟨-1,rfl,by rw [i.o];rfl,g.o⟩
theorem ZdA {A:Nat->Prop} (j:Nat) (a:Array Value) (p:Fld->Bool) (l:List (Fld)) (sv:Value) (w:World) (k:∀ args w,(callFunc j args).run Tryz.prog w=.ok (.enter j args) w)
  (c:Src 3 FldR A w sv l) (i:ZdT FldR A j a p l w) (b:l.length<=9223372036854775807) :
  Calls Tryz.prog 111 #[sv,.func (.func j) #[] a] w (Said (l.any p) w):=by
 have d:=Hd (Zkf j a p l sv w k c i b);obtain ⟨t,u,rfl⟩:=c.shape;generalize l.any p=f at d ⊢;generalize l.length=n at d ⊢;clear k c i b;go_enter Tryz.func111,Tryz.ntmps111
 go_wp2_with fail
 refine d.o.mono ?_;rintro e s ⟨z,rfl,g,h⟩;have m:=Hd g;have q:=Hd h;clear g h;go_wp2;go_ret;exact ⟨Ya5 (fun r=>Ending.returned (.bool r)) m.o,q.o⟩
theorem Zn4 (f:Nat) (a:Array Value) (c:Nat) (x:Fld) (v:Value) (n:Bool) (w:World) (k:∀ args w,(callFunc f args).run Tryz.prog w=.ok (.enter f args) w)
  (A:Nat->Prop) (l:World) (h:FldR A l x v) (b:w.cell? ⟨c,0,none⟩=some (.func (.func f) #[] a)) (d:∀ w',Below w.heap.size w w'->Calls Tryz.prog f (#[v]++a) w' (Said n w')) :
  Calls Tryz.prog 158 #[v,.pointer (some ⟨c,0,none⟩)] w (Said (!n) w):=by
 obtain rfl:=h;have j:=Hd d;have m:c<w.heap.size:=World.block_lt_of_cell? w _ b;have g:∀ o:Obj,(w.alloc o).cell? ⟨c,0,none⟩=some (.func (.func f) #[] a):=fun o=>((Yan (fun _=>False) w).alloc o).cell b id
 clear b;clear d;go_enter Tryz.func158,Tryz.ntmps158
 go_wp2_with fail
 refine (j.o _ ((Yab _ w).alloc (Yac _) _)).mono ?_;rintro e p ⟨rfl,i⟩;clear g k;go_wp2;go_ret;exact ⟨rfl,((Yab _ w).alloc (Yac _) _).trans (i.mono (by simp))⟩
theorem ZpA {A:Nat->Prop} (i:Nat) (a:Array Value) (p:Fld->Bool) (l:List (Fld)) (sv:Value) (w:World) (C:∀ args w,(callFunc i args).run Tryz.prog w=.ok (.enter i args) w)
  (q:Src 3 FldR A w sv l) (B:ZdT FldR A i a p l w) (c:l.length<=9223372036854775807) :
  Calls Tryz.prog 103 #[sv,.func (.func i) #[] a] w (Said (l.all p) w):=by
 have s:∀ (t:Fn) (first m:Array Value) (w:World),(Instr.makeFunc t first m).run Tryz.prog w=.ok (.func t first m) w:=fun _ _ _ _=>rfl
 rw [Zcz];have g:Hid (∀ D:TypeId,Calls Tryz.prog 111 #[sv,.func (.func 158) #[] #[.pointer (some ⟨w.heap.size,0,none⟩)]] (w.alloc (.cells #[.func (.func i) #[] a] D)) (Said (l.any fun x=>!p x) (w.alloc (.cells #[.func (.func i) #[] a] D)))):=Hd (fun D=>by
  have h:Below w.heap.size w (w.alloc (.cells #[.func (.func i) #[] a] D)):=(Yab _ w).alloc (Yac _) _;refine ZdA (A:=A) 158 _ (fun x=>!p x) l sv _ (Zai Tryz.func158 (by kernel_rfl) rfl) (FldR.st.below q h) (fun k x v w' G j y=>?_) c;have z:w'.cell? ⟨w.heap.size,0,none⟩=some (.func (.func i) #[] a):=(Yad (S:=fun _=>False) j).cell (by simp) id;have b:Below w.heap.size w w':=h.trans (j.mono h.size);exact Zn4 i a w.heap.size x _ (p x) w' C A w' y z (fun u d=>B k x _ u G (b.trans (d.mono b.size)) (FldR.st.keep y (Yad (S:=fun _=>False) d) (fun _ _=>id))))
 obtain ⟨I,H,rfl⟩:=q.shape;generalize (l.any fun x=>!p x)=f at g ⊢;generalize l.length=n at g ⊢;clear C q B c;go_enter Tryz.func103,Tryz.ntmps103
 go_wp2_with fail
 refine (g.o _).mono ?_;rintro e E ⟨rfl,r⟩;have b:Below w.heap.size w E:=((Yab _ w).alloc (Yac _) _).trans (r.mono (by simp));have F:=Hd b;clear r b s;go_wp2;go_ret;exact ⟨rfl,F.o⟩
theorem Zkd {A:Nat->Prop} (N:Nat) (r:Array Value) (p:Cat->Bool) (l:List (Cat)) (sv:Value) (w:World) (t:∀ args w,(callFunc N args).run Tryz.prog w=.ok (.enter N args) w)
  (U:Src 4 CatR A w sv l) (L:ZdT CatR A N r p l w) (E:l.length<=9223372036854775807) :
  Calls Tryz.prog 255 #[sv,.func (.func N) #[] r] w (ZjH (l.any p) w):=by
 have R:=Hd L;have T:=Hd t;clear L t;rcases U with ⟨ag,aa,rfl,rfl⟩|⟨b,o,ae,rfl,_,G⟩
 ·go_enter Tryz.func255,Tryz.ntmps255;go_wp2
  go_loopw [8] (fun s wr=>s=.int .i64 0/\wr=w) (fun _ _=>0)
  case atStart=>exact ⟨rfl,rfl⟩
  case round=>
   obtain ⟨rfl,rfl⟩:=hrel;go_wp2;go_ret;exact ⟨-1,rfl,rfl,Yab _ _⟩
 ·have W:=Hd G;obtain ⟨n,F⟩:∃ n,n=l.length:=⟨_,rfl⟩
  rw [←F] at E ⊢;have K:=Hd F;clear G F;go_enter Tryz.func255,Tryz.ntmps255;go_wp2
  go_loopw [8] (fun s wr=>∃ k:Nat,k<=n/\s=.int .i64 k/\(l.take k).any p=false/\Below w.heap.size w wr) (fun s _=>n - (intOf s).toNat)
  case atStart=>exact ⟨0,Yai _,rfl,by simp,Yab _ _⟩
  case round=>
   obtain ⟨k,af,rfl,m,z⟩:=hrel;have I:=Hd m;have g:=Hd z;clear m z;by_cases ac:k<n
   ·have B:k<l.length:=by have:=K.o;omega
    obtain ⟨x,u⟩:∃ x,l[k]? = some x:=⟨_,Yaa B⟩
    have d:=Yad (S:=fun _=>False) g.o;obtain ⟨v,J,H,f⟩:=W.o k x u;have V:=Hd (CatR.st.keep J d (fun _ _=>id));obtain rfl:=J;have P:wr.cell? ⟨b,o+k * 4,none⟩=some (.int .i64 x.fr):=d.cell (a:=⟨b,o+k * 4,none⟩) (f 0 _ rfl) id;have Q:wr.cell? ⟨b,o+k * 4+1,none⟩=some (.int .i64 x.till):=d.cell (a:=⟨b,o+k * 4+1,none⟩) (f 1 _ rfl) id;have X:wr.cell? ⟨b,o+k * 4+2,none⟩=some (.int .i64 x.at_):=d.cell (a:=⟨b,o+k * 4+2,none⟩) (f 2 _ rfl) id;have Y:wr.cell? ⟨b,o+k * 4+3,none⟩=some (.string (S x.cls)):=d.cell (a:=⟨b,o+k * 4+3,none⟩) (f 3 _ rfl) id;clear f H;have M:=Hd u;have q:=Zah p l k x u;rw [I.o,YaS] at q;have j:=Hd q;clear u B d q;have ad:(0:Int)<=k:=by omega
    have ab:(k:Int)<(n:Int):=by omega
    have t:=T.o
    go_wp2_with fail
    refine (R.o k x _ wr M.o g.o V.o).mono ?_;rintro e O ⟨rfl,y⟩;have C:Below w.heap.size w O:=g.o.trans (y.mono g.o.size);have D:=Hd C;clear y C t P Q X Y;cases h:p x with
    | true=>
     rw [h] at j;have c:l.any p=true:=by
      rw [YaQ];exact ⟨x,Yaf M.o,h⟩
     have i:=Hd c;clear h c;go_wp2;go_ret;exact ⟨k,rfl,by rw [i.o];simp,D.o⟩
    | false=>
     rw [h] at j;clear h;go_wp2
     go_roundw
     case rel=>exact ⟨k+1,by omega,by go_num,j.o,D.o⟩
     case measure=>simp [intOf];omega
   ·obtain rfl:k=n:=by omega
    have c:l.any p=false:=by
     have Z:=I.o;rw [K.o,Yaw (Yac _)] at Z;exact Z
    have i:=Hd c;clear c;go_wp2;go_ret;exact ⟨-1,rfl,by rw [i.o];rfl,g.o⟩
theorem ZlL {A:Nat->Prop} (j:Nat) (a:Array Value) (p:Cat->Bool) (l:List (Cat)) (sv:Value) (w:World) (k:∀ args w,(callFunc j args).run Tryz.prog w=.ok (.enter j args) w)
  (c:Src 4 CatR A w sv l) (i:ZdT CatR A j a p l w) (b:l.length<=9223372036854775807) :
  Calls Tryz.prog 242 #[sv,.func (.func j) #[] a] w (Said (l.any p) w):=by
 have d:=Hd (Zkd j a p l sv w k c i b);obtain ⟨t,u,rfl⟩:=c.shape;generalize l.any p=f at d ⊢;generalize l.length=n at d ⊢;clear k c i b;go_enter Tryz.func242,Tryz.ntmps242
 go_wp2_with fail
 refine d.o.mono ?_;rintro e s ⟨z,rfl,g,h⟩;have m:=Hd g;have q:=Hd h;clear g h;go_wp2;go_ret;exact ⟨Ya5 (fun r=>Ending.returned (.bool r)) m.o,q.o⟩
theorem Zn3 (f:Nat) (a:Array Value) (c:Nat) (x:Cat) (v:Value) (n:Bool) (w:World) (k:∀ args w,(callFunc f args).run Tryz.prog w=.ok (.enter f args) w)
  (A:Nat->Prop) (l:World) (h:CatR A l x v) (b:w.cell? ⟨c,0,none⟩=some (.func (.func f) #[] a)) (d:∀ w',Below w.heap.size w w'->Calls Tryz.prog f (#[v]++a) w' (Said n w')) :
  Calls Tryz.prog 243 #[v,.pointer (some ⟨c,0,none⟩)] w (Said (!n) w):=by
 obtain rfl:=h;have j:=Hd d;have m:c<w.heap.size:=World.block_lt_of_cell? w _ b;have g:∀ o:Obj,(w.alloc o).cell? ⟨c,0,none⟩=some (.func (.func f) #[] a):=fun o=>((Yan (fun _=>False) w).alloc o).cell b id
 clear b;clear d;go_enter Tryz.func243,Tryz.ntmps243
 go_wp2_with fail
 refine (j.o _ ((Yab _ w).alloc (Yac _) _)).mono ?_;rintro e p ⟨rfl,i⟩;clear g k;go_wp2;go_ret;exact ⟨rfl,((Yab _ w).alloc (Yac _) _).trans (i.mono (by simp))⟩
theorem Zpz {A:Nat->Prop} (i:Nat) (a:Array Value) (p:Cat->Bool) (l:List (Cat)) (sv:Value) (w:World) (C:∀ args w,(callFunc i args).run Tryz.prog w=.ok (.enter i args) w)
  (q:Src 4 CatR A w sv l) (B:ZdT CatR A i a p l w) (c:l.length<=9223372036854775807) :
  Calls Tryz.prog 214 #[sv,.func (.func i) #[] a] w (Said (l.all p) w):=by
 have s:∀ (t:Fn) (first m:Array Value) (w:World),(Instr.makeFunc t first m).run Tryz.prog w=.ok (.func t first m) w:=fun _ _ _ _=>rfl
 rw [Zcz];have g:Hid (∀ D:TypeId,Calls Tryz.prog 242 #[sv,.func (.func 243) #[] #[.pointer (some ⟨w.heap.size,0,none⟩)]] (w.alloc (.cells #[.func (.func i) #[] a] D)) (Said (l.any fun x=>!p x) (w.alloc (.cells #[.func (.func i) #[] a] D)))):=Hd (fun D=>by
  have h:Below w.heap.size w (w.alloc (.cells #[.func (.func i) #[] a] D)):=(Yab _ w).alloc (Yac _) _;refine ZlL (A:=A) 243 _ (fun x=>!p x) l sv _ (Zai Tryz.func243 (by kernel_rfl) rfl) (CatR.st.below q h) (fun k x v w' G j y=>?_) c;have z:w'.cell? ⟨w.heap.size,0,none⟩=some (.func (.func i) #[] a):=(Yad (S:=fun _=>False) j).cell (by simp) id;have b:Below w.heap.size w w':=h.trans (j.mono h.size);exact Zn3 i a w.heap.size x _ (p x) w' C A w' y z (fun u d=>B k x _ u G (b.trans (d.mono b.size)) (CatR.st.keep y (Yad (S:=fun _=>False) d) (fun _ _=>id))))
 obtain ⟨I,H,rfl⟩:=q.shape;generalize (l.any fun x=>!p x)=f at g ⊢;generalize l.length=n at g ⊢;clear C q B c;go_enter Tryz.func214,Tryz.ntmps214
 go_wp2_with fail
 refine (g.o _).mono ?_;rintro e E ⟨rfl,r⟩;have b:Below w.heap.size w E:=((Yab _ w).alloc (Yac _) _).trans (r.mono (by simp));have F:=Hd b;clear r b s;go_wp2;go_ret;exact ⟨rfl,F.o⟩
