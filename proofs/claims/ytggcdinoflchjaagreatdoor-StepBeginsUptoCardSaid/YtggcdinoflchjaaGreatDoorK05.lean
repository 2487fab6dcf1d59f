/- laws -/
import Derived.Test.YtggcdinoflchjaaGreatDoorK04
import Derived.Ground.NamesProg
import Derived.Shelf.Unicode.ValidAny
set_option maxRecDepth 100000
set_option maxHeartbeats 16000000
namespace Go.Proofs.YtggcdinoflchjaaGreatDoor
open Go.RowKit
theorem Zok (l:List UInt8) (w:World) (d:l.length<=9223372036854775807) :
  Calls Tryz.prog 97 #[.string (S l)] w (Zca (Zc0 l) w):=by
 have g:=Hd (Zd4 l w d);unfold Zib at g;by_cases c:depN l=0
 ·have j:=Hd (show Zc0 l=[] by
   unfold Zc0;rw [Yas];rintro ⟨a,h⟩;rw [ZbF a] at c;omega)
  rw [c] at g;clear c;go_enter Tryz.func97,Tryz.ntmps97
  go_wp2_with fail
  refine g.o.mono ?_;rintro e w' ⟨rfl,f⟩;go_wp2;go_ret;exact ⟨by rw [j.o];rfl,f⟩
 ·have a:Zaj l=true:=by
   cases a:Zaj l with
   | true=>rfl
   | false=>exact absurd (Zdm a) c
  have h:1<=ZaO l:=by rw [ZbF a] at c;omega
  have m:=Zha h;have j:=Hd (show Zc0 l=l.take (l.length - 2) by unfold Zc0;rw [YaC ⟨a,h⟩]);have r:=Hd (fun w=>Zfw l w d m);have i:l.length<=281474976710656:=by
   have b:=a;unfold Zaj at b;simp only [Yar] at b;have p:=(Zby (ZdN b.2)).2;rw [ZcQ] at p;have t:=Zdl l;have q:=b.1;simp at q
   omega
  have n:=Hd (fun w=>ZaF (S (l.take (l.length - 2))) w (by rw [Zay,Yay];omega));clear i;have s:((depN l:Int) == 0)=false:=by rw [Yah];omega
  clear a h m c;generalize depN l=u at *;go_enter Tryz.func97,Tryz.ntmps97
  go_wp2_with fail
  refine g.o.mono ?_;rintro e w' ⟨rfl,f⟩
  go_wp2_with fail
  refine (r.o _).mono ?_;rintro e w2 ⟨rfl,rfl⟩
  go_wp2_with fail
  refine (n.o _).mono ?_;rintro e w2 ⟨rfl,k⟩;go_wp2;go_ret;exact ⟨by rw [j.o];rfl,f.trans (k.mono f.size)⟩
def ZgX (l:List UInt8) (w:World) (e:Ending) (w':World):Prop:=
 (if ZaU l=true then e=.returned (.tuple #[.string (S (l.take (ZaP l))),.string (S (l.drop (ZaP l+1))),.int .i64 0]) else e=.returned (.tuple #[.string ⟨#[]⟩,.string ⟨#[]⟩,.int .i64 30]))/\Below w.heap.size w w'
theorem Zaz (w:World) (a:Nat):Below w.heap.size w (w.drewN a):=by
 induction a with
 | zero=>exact Yab _ _
 | succ a b=>exact b.drew
theorem ZhN (l:List UInt8) (w:World) (j:l.length<=9223372036854775807) :
  Calls Tryz.prog 196 #[.string (S l)] w (ZgX l w):=by
 go_enter Tryz.func196,Tryz.ntmps196
 go_wp2_with fail
 refine (ZpG l w j).mono ?_;rintro e w' ⟨⟨u,rfl⟩,x⟩;have a:=Zaz w u;generalize w.drewN u=E at *;rcases x with ⟨m,rfl⟩|⟨m,rfl⟩
 ·have i:=Hd (show ZaU l=(Zal (l.take (ZaP l)) && ZaC (l.drop (ZaP l+1))) by unfold ZaU;rw [Yat m,Yax]);have c:=Hd (fun w=>ZbM (l.take (ZaP l)) w (by rw [Yay];omega));have h:=Hd (fun w=>Zjw (l.drop (ZaP l+1)) w (by rw [Ybn];omega));have q:=Hd (fun w (d:Zal (l.take (ZaP l))=true)=>ZaF (S (l.take (ZaP l))) w (by have u:=(Zby (Zbg d)).2;rw [Zay];omega));have s:=Hd (fun w (k:ZaC (l.drop (ZaP l+1))=true)=>ZaF (S (l.drop (ZaP l+1))) w (by unfold ZaC at k;rw [Yar] at k;have u:=(Zby k.1).2;rw [Zay];omega));unfold Said at c h;clear m;have n:Hid (∀ e w',(if ZaU l=true then e=.returned (.tuple #[.string (S (l.take (ZaP l))),.string (S (l.drop (ZaP l+1))),.int .i64 0]) else e=.returned (.tuple #[.string ⟨#[]⟩,.string ⟨#[]⟩,.int .i64 30]))->Below w.heap.size w w'->ZgX l w e w'):=fun e w' D v=>⟨D,v⟩
  generalize S (l.take (ZaP l))=A at *;generalize S (l.drop (ZaP l+1))=B at *;generalize ZaC (l.drop (ZaP l+1))=z at *;generalize Zal (l.take (ZaP l))=y at *;cases y with
  | false=>
   go_wp2_with fail
   refine (c.o _).mono ?_;rintro e w2 ⟨rfl,b⟩;go_wp2
   go_ret3;exact n.o _ _ (by rw [i.o];rfl) (a.trans (b.mono a.size))
  | true=>
   cases z with
   | false=>
    go_wp2_with fail
    refine (c.o _).mono ?_;rintro e w2 ⟨rfl,b⟩
    go_wp2_with fail
    refine (h.o _).mono ?_;rintro e r ⟨rfl,g⟩;have f:=a.trans (b.mono a.size);have b3:=f.trans (g.mono f.size);go_wp2
    go_ret3;exact n.o _ _ (by rw [i.o];rfl) b3
   | true=>
    go_wp2_with fail
    refine (c.o _).mono ?_;rintro e w2 ⟨rfl,b⟩
    go_wp2_with fail
    refine (h.o _).mono ?_;rintro e r ⟨rfl,g⟩
    go_wp2_with fail
    refine (q.o _ trivial).mono ?_;rintro e C ⟨rfl,p⟩
    go_wp2_with fail
    refine (s.o _ trivial).mono ?_;rintro e F ⟨rfl,t⟩;have f:=a.trans (b.mono a.size);have b3:=f.trans (g.mono f.size);have b4:=b3.trans (p.mono b3.size);have b5:=b4.trans (t.mono b4.size);go_wp2
    go_ret3;exact n.o _ _ (by rw [i.o];rfl) b5
 ·have i:=Hd (show ZaU l=false by unfold ZaU;rw [Yaj (show ¬ ZaP l<l.length by omega),YaF]);have c:=Hd (fun w=>ZbM l w j);have h:=Hd (fun w=>Zjw [] w (by simp));rw [show ZaC []=false from rfl] at h;unfold Said at c h;clear m;cases d:Zal l with
  | false=>
   rw [d] at c;clear d
   go_wp2_with fail
   refine (c.o _).mono ?_;rintro e w2 ⟨rfl,b⟩;go_wp2
   go_ret3;exact ⟨by rw [i.o];rfl,a.trans (b.mono a.size)⟩
  | true=>
   rw [d] at c;clear d
   go_wp2_with fail
   refine (c.o _).mono ?_;rintro e w2 ⟨rfl,b⟩
   go_wp2_with fail
   refine (h.o _).mono ?_;rintro e r ⟨rfl,g⟩;have f:=a.trans (b.mono a.size);have b3:=f.trans (g.mono f.size);go_wp2
   go_ret3;exact ⟨by rw [i.o];rfl,b3⟩
theorem Znn (l:List UInt8) (w:World) (a:l.length<=9223372036854775807) (d:ZaU l=true) :
  Calls Tryz.prog 196 #[.string (S l)] w fun e w'=>e=.returned (.tuple #[.string (S (l.take (ZaP l))),.string (S (l.drop (ZaP l+1))),.int .i64 0])/\Below w.heap.size w w':=by
 refine (ZhN l w a).mono ?_;rintro e w' ⟨b,c⟩;rw [YaC d] at b;exact ⟨b,c⟩
theorem Zo0 (l:List UInt8) (w:World) (a:l.length<=9223372036854775807) (d:ZaU l=false) :
  Calls Tryz.prog 196 #[.string (S l)] w fun e w'=>e=.returned (.tuple #[.string ⟨#[]⟩,.string ⟨#[]⟩,.int .i64 30])/\Below w.heap.size w w':=by
 refine (ZhN l w a).mono ?_;rintro e w' ⟨b,c⟩;rw [Yas (by rw [d];decide)] at b;exact ⟨b,c⟩
theorem ZqK (l:List UInt8) (w:World) (a:l.length<=9223372036854775807) (f:Zaj l=true) (d:ZaO l<=2) :
  Calls Tryz.prog 139 #[.string (S l)] w fun e w'=>e=.returned (.tuple #[.string (S (ofL l)),.int .i64 0])/\Below w.heap.size w w':=by
 refine (Zpq l w a).mono ?_;rintro e w' ⟨b,c⟩;rw [YaC ⟨f,d⟩] at b;exact ⟨b,c⟩
theorem Zq0 (l:List UInt8) (w:World) (a:l.length<=9223372036854775807) (d:¬ (Zaj l=true/\ZaO l<=2)) :
  Calls Tryz.prog 139 #[.string (S l)] w fun e w'=>e=.returned (.tuple #[.string ⟨#[]⟩,.int .i64 30])/\Below w.heap.size w w':=by
 refine (Zpq l w a).mono ?_;rintro e w' ⟨b,c⟩;rw [Yas d] at b;exact ⟨b,c⟩
end Go.Proofs.YtggcdinoflchjaaGreatDoor
namespace Go.Proofs.YtggcdinoflchjaaGreatDoor
open Go.Shelf
def laysRen:Go.Shelf.Ren:=⟨fun|196=>263|259=>272|n=>n,fun|9=>9|4=>4|3=>3|5=>5|12=>12|119=>232|0=>0|46=>229|139=>235|138=>234|53=>240|n=>n,fun|3=>3|4=>4|n=>n⟩
theorem Zhv:Lays.n196 Tryz.prog laysRen:={
 mixed:=by kernel_rfl
 f196:=Tryz.func263.trans (Ya5 some (by kernel_rfl))
 f259:=Tryz.func272.trans (Ya5 some (by kernel_rfl))
 t0:=Tryz.underlying0
 a0:=Tryz.isAgg0
 z0:=Tryz.sizeOf0
 v0:=Tryz.zeroValue0
 t3:=Tryz.underlying3
 a3:=Tryz.isAgg3
 z3:=Tryz.sizeOf3
 v3:=Tryz.zeroValue3
 t4:=Tryz.underlying4
 a4:=Tryz.isAgg4
 z4:=Tryz.sizeOf4
 v4:=Tryz.zeroValue4
 t5:=Tryz.underlying5
 a5:=Tryz.isAgg5
 z5:=Tryz.sizeOf5
 v5:=Tryz.zeroValue5
 t9:=Tryz.underlying9
 a9:=Tryz.isAgg9
 z9:=Tryz.sizeOf9
 v9:=Tryz.zeroValue9
 t12:=Tryz.underlying12
 a12:=Tryz.isAgg12
 z12:=Tryz.sizeOf12
 v12:=Tryz.zeroValue12
 t46:=Tryz.underlying229
 a46:=Tryz.isAgg229
 z46:=Tryz.sizeOf229
 v46:=Tryz.zeroValue229
 t53:=Tryz.underlying240
 a53:=Tryz.isAgg240
 z53:=Tryz.sizeOf240
 v53:=Tryz.zeroValue240
 t119:=Tryz.underlying232
 a119:=Tryz.isAgg232
 z119:=Tryz.sizeOf232
 t138:=Tryz.underlying234
 a138:=Tryz.isAgg234
 z138:=Tryz.sizeOf234
 v138:=Tryz.zeroValue234
 t139:=Tryz.underlying235
 a139:=Tryz.isAgg235
 z139:=Tryz.sizeOf235
 v139:=Tryz.zeroValue235
 g3:=by kernel_rfl
 g4:=by kernel_rfl }
