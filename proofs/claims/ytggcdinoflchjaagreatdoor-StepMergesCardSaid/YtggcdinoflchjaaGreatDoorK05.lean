/- laws -/
import Derived.Test.YtggcdinoflchjaaGreatDoorK04
import Derived.Ground.NamesProg
import Derived.Shelf.Unicode.ValidAny
set_option maxRecDepth 100000
set_option maxHeartbeats 16000000
namespace Go.Proofs.YtggcdinoflchjaaGreatDoor
open Go.RowKit
theorem ZoS (l:List UInt8) (w:World) (hlim:l.length<=9223372036854775807) :
  Calls Tryz.prog 97 #[.string (S l)] w (ZbT (Zdc l) w):=by
 have HD:=Hd (Zek l w hlim);unfold ZiE at HD;by_cases h0:depN l=0
 ·have HE:=Hd (show Zdc l=[] by
   unfold Zdc;rw [Yaq];rintro ⟨hr,hd⟩;rw [ZbQ hr] at h0;omega)
  rw [h0] at HD;clear h0;go_enter Tryz.func97,Tryz.ntmps97
  go_wp2_with fail
  refine HD.o.mono ?_;rintro e w' ⟨rfl,hb⟩;go_wp2;go_ret;exact ⟨by rw [HE.o];rfl,hb⟩
 ·have hr:Zaj l=true:=by
   cases hr:Zaj l with
   | true=>rfl
   | false=>exact absurd (Zcz hr) h0
  have hd:1<=ZaV l:=by rw [ZbQ hr] at h0;omega
  have he:=ZhD hd;have HE:=Hd (show Zdc l=l.take (l.length - 2) by unfold Zdc;rw [YaA ⟨hr,hd⟩]);have HT:=Hd (fun w=>Zf2 l w hlim he);have hlen:l.length<=281474976710656:=by
   have hr':=hr;unfold Zaj at hr';simp only [Yat] at hr';have h1:=(ZbH (Zd4 hr'.2)).2;rw [Zc3] at h1;have h2:=Zdz l;have h3:=hr'.1;simp at h3
   omega
  have HC:=Hd (fun w=>ZaG (S (l.take (l.length - 2))) w (by rw [ZaB,Yaz];omega));clear hlen;have hne:((depN l:Int) == 0)=false:=by rw [Yah];omega
  clear hr hd he h0;generalize depN l=N at *;go_enter Tryz.func97,Tryz.ntmps97
  go_wp2_with fail
  refine HD.o.mono ?_;rintro e w' ⟨rfl,hb⟩
  go_wp2_with fail
  refine (HT.o _).mono ?_;rintro e w2 ⟨rfl,rfl⟩
  go_wp2_with fail
  refine (HC.o _).mono ?_;rintro e w2 ⟨rfl,hb2⟩;go_wp2;go_ret;exact ⟨by rw [HE.o];rfl,hb.trans (hb2.mono hb.size)⟩
def Zhr (l:List UInt8) (w:World) (e:Ending) (w':World):Prop:=
 (if Za3 l=true then e=.returned (.tuple #[.string (S (l.take (ZaW l))),.string (S (l.drop (ZaW l+1))),.int .i64 0]) else e=.returned (.tuple #[.string ⟨#[]⟩,.string ⟨#[]⟩,.int .i64 30]))/\Below w.heap.size w w'
theorem ZaD (w:World) (q:Nat):Below w.heap.size w (w.drewN q):=by
 induction q with
 | zero=>exact Yab _ _
 | succ q ih=>exact ih.drew
theorem Zif (l:List UInt8) (w:World) (hlim:l.length<=9223372036854775807) :
  Calls Tryz.prog 196 #[.string (S l)] w (Zhr l w):=by
 go_enter Tryz.func196,Tryz.ntmps196
 go_wp2_with fail
 refine (Zqd l w hlim).mono ?_;rintro e w' ⟨⟨q,rfl⟩,hc⟩;have hb0:=ZaD w q;generalize w.drewN q=w1 at *;rcases hc with ⟨hd,rfl⟩|⟨hd,rfl⟩
 ·have HP:=Hd (show Za3 l=(Zak (l.take (ZaW l)) && ZaF (l.drop (ZaW l+1))) by unfold Za3;rw [Yar hd,Yax]);have HA:=Hd (fun w=>ZbZ (l.take (ZaW l)) w (by rw [Yaz];omega));have HB:=Hd (fun w=>ZjZ (l.drop (ZaW l+1)) w (by rw [YbA];omega));have HC1:=Hd (fun w (hcb:Zak (l.take (ZaW l))=true)=>ZaG (S (l.take (ZaW l))) w (by have q:=(ZbH (Zbf hcb)).2;rw [ZaB];omega));have HC2:=Hd (fun w (hmb:ZaF (l.drop (ZaW l+1))=true)=>ZaG (S (l.drop (ZaW l+1))) w (by unfold ZaF at hmb;rw [Yat] at hmb;have q:=(ZbH hmb.1).2;rw [ZaB];omega));unfold Said at HA HB;clear hd;have HF:Hid (∀ e w',(if Za3 l=true then e=.returned (.tuple #[.string (S (l.take (ZaW l))),.string (S (l.drop (ZaW l+1))),.int .i64 0]) else e=.returned (.tuple #[.string ⟨#[]⟩,.string ⟨#[]⟩,.int .i64 30]))->Below w.heap.size w w'->Zhr l w e w'):=fun e w' h h2=>⟨h,h2⟩
  generalize S (l.take (ZaW l))=A at *;generalize S (l.drop (ZaW l+1))=B at *;generalize ZaF (l.drop (ZaW l+1))=mb at *;generalize Zak (l.take (ZaW l))=cb at *;cases cb with
  | false=>
   go_wp2_with fail
   refine (HA.o _).mono ?_;rintro e w2 ⟨rfl,hb2⟩;go_wp2
   go_ret3;exact HF.o _ _ (by rw [HP.o];rfl) (hb0.trans (hb2.mono hb0.size))
  | true=>
   cases mb with
   | false=>
    go_wp2_with fail
    refine (HA.o _).mono ?_;rintro e w2 ⟨rfl,hb2⟩
    go_wp2_with fail
    refine (HB.o _).mono ?_;rintro e w3 ⟨rfl,hb3⟩;have b2:=hb0.trans (hb2.mono hb0.size);have b3:=b2.trans (hb3.mono b2.size);go_wp2
    go_ret3;exact HF.o _ _ (by rw [HP.o];rfl) b3
   | true=>
    go_wp2_with fail
    refine (HA.o _).mono ?_;rintro e w2 ⟨rfl,hb2⟩
    go_wp2_with fail
    refine (HB.o _).mono ?_;rintro e w3 ⟨rfl,hb3⟩
    go_wp2_with fail
    refine (HC1.o _ trivial).mono ?_;rintro e w4 ⟨rfl,hb4⟩
    go_wp2_with fail
    refine (HC2.o _ trivial).mono ?_;rintro e w5 ⟨rfl,hb5⟩;have b2:=hb0.trans (hb2.mono hb0.size);have b3:=b2.trans (hb3.mono b2.size);have b4:=b3.trans (hb4.mono b3.size);have b5:=b4.trans (hb5.mono b4.size);go_wp2
    go_ret3;exact HF.o _ _ (by rw [HP.o];rfl) b5
 ·have HP:=Hd (show Za3 l=false by unfold Za3;rw [Yaj (show ¬ ZaW l<l.length by omega),YaD]);have HA:=Hd (fun w=>ZbZ l w hlim);have HB:=Hd (fun w=>ZjZ [] w (by simp));rw [show ZaF []=false from rfl] at HB;unfold Said at HA HB;clear hd;cases hcb:Zak l with
  | false=>
   rw [hcb] at HA;clear hcb
   go_wp2_with fail
   refine (HA.o _).mono ?_;rintro e w2 ⟨rfl,hb2⟩;go_wp2
   go_ret3;exact ⟨by rw [HP.o];rfl,hb0.trans (hb2.mono hb0.size)⟩
  | true=>
   rw [hcb] at HA;clear hcb
   go_wp2_with fail
   refine (HA.o _).mono ?_;rintro e w2 ⟨rfl,hb2⟩
   go_wp2_with fail
   refine (HB.o _).mono ?_;rintro e w3 ⟨rfl,hb3⟩;have b2:=hb0.trans (hb2.mono hb0.size);have b3:=b2.trans (hb3.mono b2.size);go_wp2
   go_ret3;exact ⟨by rw [HP.o];rfl,b3⟩
theorem ZnW (l:List UInt8) (w:World) (hlim:l.length<=9223372036854775807) (h:Za3 l=true) :
  Calls Tryz.prog 196 #[.string (S l)] w fun e w'=>e=.returned (.tuple #[.string (S (l.take (ZaW l))),.string (S (l.drop (ZaW l+1))),.int .i64 0])/\Below w.heap.size w w':=by
 refine (Zif l w hlim).mono ?_;rintro e w' ⟨h1,h2⟩;rw [YaA h] at h1;exact ⟨h1,h2⟩
theorem Zpy (l:List UInt8) (w:World) (hlim:l.length<=9223372036854775807) (h:Za3 l=false) :
  Calls Tryz.prog 196 #[.string (S l)] w fun e w'=>e=.returned (.tuple #[.string ⟨#[]⟩,.string ⟨#[]⟩,.int .i64 30])/\Below w.heap.size w w':=by
 refine (Zif l w hlim).mono ?_;rintro e w' ⟨h1,h2⟩;rw [Yaq (by rw [h];decide)] at h1;exact ⟨h1,h2⟩
theorem Zrd (l:List UInt8) (w:World) (hlim:l.length<=9223372036854775807) (h:Zaj l=true) (h2:ZaV l<=2) :
  Calls Tryz.prog 139 #[.string (S l)] w fun e w'=>e=.returned (.tuple #[.string (S (ofL l)),.int .i64 0])/\Below w.heap.size w w':=by
 refine (ZpX l w hlim).mono ?_;rintro e w' ⟨h3,h4⟩;rw [YaA ⟨h,h2⟩] at h3;exact ⟨h3,h4⟩
theorem Zrt (l:List UInt8) (w:World) (hlim:l.length<=9223372036854775807) (h:¬ (Zaj l=true/\ZaV l<=2)) :
  Calls Tryz.prog 139 #[.string (S l)] w fun e w'=>e=.returned (.tuple #[.string ⟨#[]⟩,.int .i64 30])/\Below w.heap.size w w':=by
 refine (ZpX l w hlim).mono ?_;rintro e w' ⟨h3,h4⟩;rw [Yaq h] at h3;exact ⟨h3,h4⟩
end Go.Proofs.YtggcdinoflchjaaGreatDoor
namespace Go.Proofs.YtggcdinoflchjaaGreatDoor
open Go.Shelf
def laysRen:Go.Shelf.Ren:=⟨fun|196=>263|259=>272|n=>n,fun|9=>9|4=>4|3=>3|5=>5|12=>12|119=>232|0=>0|46=>229|139=>235|138=>234|53=>240|n=>n,fun|3=>3|4=>4|n=>n⟩
theorem ZhZ:Lays.n196 Tryz.prog laysRen:={
 mixed:=by kernel_rfl
 f196:=Tryz.func263.trans (Ya5 some (by kernel_rfl))
 f259:=Tryz.func272.trans (Ya5 some (by kernel_rfl))
 t0:=Tryz.underlying0
 a0:=Tryz.isAgg0
 z0:=Tryz.sizeOf0
 v0:=Tryz.zeroValue0
 t3:=Tryz.underlying3
 a3:=Tryz.isAgg3
 z3:=Tryz.sizeOf3
 v3:=Tryz.zeroValue3
 t4:=Tryz.underlying4
 a4:=Tryz.isAgg4
 z4:=Tryz.sizeOf4
 v4:=Tryz.zeroValue4
 t5:=Tryz.underlying5
 a5:=Tryz.isAgg5
 z5:=Tryz.sizeOf5
 v5:=Tryz.zeroValue5
 t9:=Tryz.underlying9
 a9:=Tryz.isAgg9
 z9:=Tryz.sizeOf9
 v9:=Tryz.zeroValue9
 t12:=Tryz.underlying12
 a12:=Tryz.isAgg12
 z12:=Tryz.sizeOf12
 v12:=Tryz.zeroValue12
 t46:=Tryz.underlying229
 a46:=Tryz.isAgg229
 z46:=Tryz.sizeOf229
 v46:=Tryz.zeroValue229
 t53:=Tryz.underlying240
 a53:=Tryz.isAgg240
 z53:=Tryz.sizeOf240
 v53:=Tryz.zeroValue240
 t119:=Tryz.underlying232
 a119:=Tryz.isAgg232
 z119:=Tryz.sizeOf232
 t138:=Tryz.underlying234
 a138:=Tryz.isAgg234
 z138:=Tryz.sizeOf234
 v138:=Tryz.zeroValue234
 t139:=Tryz.underlying235
 a139:=Tryz.isAgg235
 z139:=Tryz.sizeOf235
 v139:=Tryz.zeroValue235
 g3:=by kernel_rfl
 g4:=by kernel_rfl }
