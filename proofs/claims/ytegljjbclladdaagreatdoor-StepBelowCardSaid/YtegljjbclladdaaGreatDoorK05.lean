/- laws -/
import Derived.Test.YtegljjbclladdaaGreatDoorK04
import Derived.Shelf.Unicode.ValidAny
set_option maxRecDepth 100000
set_option maxHeartbeats 16000000
namespace Go.Proofs.YtegljjbclladdaaGreatDoor
open Go.RowKit
theorem ZkN (l:List UInt8) (w:World) (hlim:l.length<=9223372036854775807) :
  Calls Tryz.prog 177 #[.string (S l)] w (Zcc (Zbd l) w):=by
 have HD:=Hd (ZeC l w hlim);unfold Zjx at HD;by_cases h0:depN l=0
 ·have HE:=Hd (show Zbd l=[] by
   unfold Zbd;rw [Yar];rintro ⟨hr,hd⟩;rw [ZbP hr] at h0;omega)
  rw [h0] at HD;clear h0;go_enter Tryz.func177,Tryz.ntmps177
  go_wp2_with fail
  refine HD.o.mono ?_;rintro e w' ⟨rfl,hb⟩;go_wp2;go_ret;exact ⟨by rw [HE.o];rfl,hb⟩
 ·have hr:Zag l=true:=by
   cases hr:Zag l with
   | true=>rfl
   | false=>exact absurd (ZdE hr) h0
  have hd:1<=ZaL l:=by rw [ZbP hr] at h0;omega
  have he:=Ziq hd;have HE:=Hd (show Zbd l=l.take (l.length - 2) by unfold Zbd;rw [Yay ⟨hr,hd⟩]);have HT:=Hd (fun w=>Zgy l w hlim he);have hlen:l.length<=281474976710656:=by
   have hr':=hr;unfold Zag at hr';simp only [Yaw] at hr';have h1:=(ZbK (Zd7 hr'.2)).2;rw [Zc6] at h1;have h2:=ZdD l;have h3:=hr'.1;simp at h3
   omega
  have HC:=Hd (fun w=>ZaE (S (l.take (l.length - 2))) w (by rw [Zat,YaA];omega));clear hlen;have hne:((depN l:Int) == 0)=false:=by rw [Yah];omega
  clear hr hd he h0;generalize depN l=N at *;go_enter Tryz.func177,Tryz.ntmps177
  go_wp2_with fail
  refine HD.o.mono ?_;rintro e w' ⟨rfl,hb⟩
  go_wp2_with fail
  refine (HT.o _).mono ?_;rintro e w2 ⟨rfl,rfl⟩
  go_wp2_with fail
  refine (HC.o _).mono ?_;rintro e w2 ⟨rfl,hb2⟩;go_wp2;go_ret;exact ⟨by rw [HE.o];rfl,hb.trans (hb2.mono hb.size)⟩
def ZfD (l:List UInt8) (w:World) (e:Ending) (w':World):Prop:=
 (if ZaU l=true then e=.returned (.tuple #[.string (S (l.take (ZaQ l))),.string (S (l.drop (ZaQ l+1))),.int .i64 0]) else e=.returned (.tuple #[.string ⟨#[]⟩,.string ⟨#[]⟩,.int .i64 30]))/\Below w.heap.size w w'
theorem ZaD (w:World) (q:Nat):Below w.heap.size w (w.drewN q):=by
 induction q with
 | zero=>exact Yab _ _
 | succ q ih=>exact ih.drew
theorem Zgn (l:List UInt8) (w:World) (hlim:l.length<=9223372036854775807) :
  Calls Tryz.prog 170 #[.string (S l)] w (ZfD l w):=by
 go_enter Tryz.func170,Tryz.ntmps170
 go_wp2_with fail
 refine (Zr4 l w hlim).mono ?_;rintro e w' ⟨⟨q,rfl⟩,hc⟩;have hb0:=ZaD w q;generalize w.drewN q=w1 at *;rcases hc with ⟨hd,rfl⟩|⟨hd,rfl⟩
 ·have HP:=Hd (show ZaU l=(Zah (l.take (ZaQ l)) && ZaA (l.drop (ZaQ l+1))) by unfold ZaU;rw [Yas hd,YaG]);have HA:=Hd (fun w=>ZbV (l.take (ZaQ l)) w (by rw [YaA];omega));have HB:=Hd (fun w=>Zk4 (l.drop (ZaQ l+1)) w (by rw [Ybr];omega));have HC1:=Hd (fun w (hcb:Zah (l.take (ZaQ l))=true)=>ZaE (S (l.take (ZaQ l))) w (by have q:=(ZbK (Zbs hcb)).2;rw [Zat];omega));have HC2:=Hd (fun w (hmb:ZaA (l.drop (ZaQ l+1))=true)=>ZaE (S (l.drop (ZaQ l+1))) w (by unfold ZaA at hmb;rw [Yaw] at hmb;have q:=(ZbK hmb.1).2;rw [Zat];omega));unfold Said at HA HB;clear hd;have HF:Hid (∀ e w',(if ZaU l=true then e=.returned (.tuple #[.string (S (l.take (ZaQ l))),.string (S (l.drop (ZaQ l+1))),.int .i64 0]) else e=.returned (.tuple #[.string ⟨#[]⟩,.string ⟨#[]⟩,.int .i64 30]))->Below w.heap.size w w'->ZfD l w e w'):=fun e w' h h2=>⟨h,h2⟩
  generalize S (l.take (ZaQ l))=A at *;generalize S (l.drop (ZaQ l+1))=B at *;generalize ZaA (l.drop (ZaQ l+1))=mb at *;generalize Zah (l.take (ZaQ l))=cb at *;cases cb with
  | false=>
   go_wp2_with fail
   refine (HA.o _).mono ?_;rintro e w2 ⟨rfl,hb2⟩;go_wp2
   go_ret3;exact HF.o _ _ (by rw [HP.o];rfl) (hb0.trans (hb2.mono hb0.size))
  | true=>
   cases mb with
   | false=>
    go_wp2_with fail
    refine (HA.o _).mono ?_;rintro e w2 ⟨rfl,hb2⟩
    go_wp2_with fail
    refine (HB.o _).mono ?_;rintro e w3 ⟨rfl,hb3⟩;have b2:=hb0.trans (hb2.mono hb0.size);have b3:=b2.trans (hb3.mono b2.size);go_wp2
    go_ret3;exact HF.o _ _ (by rw [HP.o];rfl) b3
   | true=>
    go_wp2_with fail
    refine (HA.o _).mono ?_;rintro e w2 ⟨rfl,hb2⟩
    go_wp2_with fail
    refine (HB.o _).mono ?_;rintro e w3 ⟨rfl,hb3⟩
    go_wp2_with fail
    refine (HC1.o _ trivial).mono ?_;rintro e w4 ⟨rfl,hb4⟩
    go_wp2_with fail
    refine (HC2.o _ trivial).mono ?_;rintro e w5 ⟨rfl,hb5⟩;have b2:=hb0.trans (hb2.mono hb0.size);have b3:=b2.trans (hb3.mono b2.size);have b4:=b3.trans (hb4.mono b3.size);have b5:=b4.trans (hb5.mono b4.size);go_wp2
    go_ret3;exact HF.o _ _ (by rw [HP.o];rfl) b5
 ·have HP:=Hd (show ZaU l=false by unfold ZaU;rw [Yan (show ¬ ZaQ l<l.length by omega),YaQ]);have HA:=Hd (fun w=>ZbV l w hlim);have HB:=Hd (fun w=>Zk4 [] w (by simp));rw [show ZaA []=false from rfl] at HB;unfold Said at HA HB;clear hd;cases hcb:Zah l with
  | false=>
   rw [hcb] at HA;clear hcb
   go_wp2_with fail
   refine (HA.o _).mono ?_;rintro e w2 ⟨rfl,hb2⟩;go_wp2
   go_ret3;exact ⟨by rw [HP.o];rfl,hb0.trans (hb2.mono hb0.size)⟩
  | true=>
   rw [hcb] at HA;clear hcb
   go_wp2_with fail
   refine (HA.o _).mono ?_;rintro e w2 ⟨rfl,hb2⟩
   go_wp2_with fail
   refine (HB.o _).mono ?_;rintro e w3 ⟨rfl,hb3⟩;have b2:=hb0.trans (hb2.mono hb0.size);have b3:=b2.trans (hb3.mono b2.size);go_wp2
   go_ret3;exact ⟨by rw [HP.o];rfl,b3⟩
theorem Zpp (l:List UInt8) (w:World) (hlim:l.length<=9223372036854775807) (h:ZaU l=true) :
  Calls Tryz.prog 170 #[.string (S l)] w fun e w'=>e=.returned (.tuple #[.string (S (l.take (ZaQ l))),.string (S (l.drop (ZaQ l+1))),.int .i64 0])/\Below w.heap.size w w':=by
 refine (Zgn l w hlim).mono ?_;rintro e w' ⟨h1,h2⟩;rw [Yay h] at h1;exact ⟨h1,h2⟩
theorem Zrf (l:List UInt8) (w:World) (hlim:l.length<=9223372036854775807) (h:ZaU l=false) :
  Calls Tryz.prog 170 #[.string (S l)] w fun e w'=>e=.returned (.tuple #[.string ⟨#[]⟩,.string ⟨#[]⟩,.int .i64 30])/\Below w.heap.size w w':=by
 refine (Zgn l w hlim).mono ?_;rintro e w' ⟨h1,h2⟩;rw [Yar (by rw [h];decide)] at h1;exact ⟨h1,h2⟩
theorem Ztk (l:List UInt8) (w:World) (hlim:l.length<=9223372036854775807) (h:Zag l=true) (h2:ZaL l<=2) :
  Calls Tryz.prog 110 #[.string (S l)] w fun e w'=>e=.returned (.tuple #[.string (S (ofL l)),.int .i64 0])/\Below w.heap.size w w':=by
 refine (Zo1 l w hlim).mono ?_;rintro e w' ⟨h3,h4⟩;rw [Yay ⟨h,h2⟩] at h3;exact ⟨h3,h4⟩
theorem ZtI (l:List UInt8) (w:World) (hlim:l.length<=9223372036854775807) (h:¬ (Zag l=true/\ZaL l<=2)) :
  Calls Tryz.prog 110 #[.string (S l)] w fun e w'=>e=.returned (.tuple #[.string ⟨#[]⟩,.int .i64 30])/\Below w.heap.size w w':=by
 refine (Zo1 l w hlim).mono ?_;rintro e w' ⟨h3,h4⟩;rw [Yar h] at h3;exact ⟨h3,h4⟩
end Go.Proofs.YtegljjbclladdaaGreatDoor
namespace Go.Proofs.YtegljjbclladdaaGreatDoor
open Go.Shelf
def laysRen:Go.Shelf.Ren:=⟨fun|196=>248|259=>257|n=>n,fun|9=>9|4=>4|3=>3|5=>5|12=>12|119=>220|0=>0|46=>217|139=>223|138=>222|53=>228|n=>n,fun|3=>3|4=>4|n=>n⟩
theorem ZiM:Lays.n196 Tryz.prog laysRen:={
 mixed:=by kernel_rfl
 f196:=Tryz.func248.trans (Ya8 some (by kernel_rfl))
 f259:=Tryz.func257.trans (Ya8 some (by kernel_rfl))
 t0:=Tryz.underlying0
 a0:=Tryz.isAgg0
 z0:=Tryz.sizeOf0
 v0:=Tryz.zeroValue0
 t3:=Tryz.underlying3
 a3:=Tryz.isAgg3
 z3:=Tryz.sizeOf3
 v3:=Tryz.zeroValue3
 t4:=Tryz.underlying4
 a4:=Tryz.isAgg4
 z4:=Tryz.sizeOf4
 v4:=Tryz.zeroValue4
 t5:=Tryz.underlying5
 a5:=Tryz.isAgg5
 z5:=Tryz.sizeOf5
 v5:=Tryz.zeroValue5
 t9:=Tryz.underlying9
 a9:=Tryz.isAgg9
 z9:=Tryz.sizeOf9
 v9:=Tryz.zeroValue9
 t12:=Tryz.underlying12
 a12:=Tryz.isAgg12
 z12:=Tryz.sizeOf12
 v12:=Tryz.zeroValue12
 t46:=Tryz.underlying217
 a46:=Tryz.isAgg217
 z46:=Tryz.sizeOf217
 v46:=Tryz.zeroValue217
 t53:=Tryz.underlying228
 a53:=Tryz.isAgg228
 z53:=Tryz.sizeOf228
 v53:=Tryz.zeroValue228
 t119:=Tryz.underlying220
 a119:=Tryz.isAgg220
 z119:=Tryz.sizeOf220
 t138:=Tryz.underlying222
 a138:=Tryz.isAgg222
 z138:=Tryz.sizeOf222
 v138:=Tryz.zeroValue222
 t139:=Tryz.underlying223
 a139:=Tryz.isAgg223
 z139:=Tryz.sizeOf223
 v139:=Tryz.zeroValue223
 g3:=by kernel_rfl
 g4:=by kernel_rfl }
