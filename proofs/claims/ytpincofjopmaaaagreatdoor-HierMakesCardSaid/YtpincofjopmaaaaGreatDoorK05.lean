/-
  Texts KElem, Shelf: laws that the claims lean on.
  Conditions: as each law says.
-/
import Derived.Test.YtpincofjopmaaaaGreatDoorK04
import Derived.Ground.NamesProg
import Derived.Shelf.Unicode.ValidAny
set_option maxRecDepth 100000
set_option maxHeartbeats 16000000
namespace Go.Proofs.YtpincofjopmaaaaGreatDoor
open Go.RowKit
theorem elem_any (l:List UInt8) (w:World) (hlim:l.length<=9223372036854775807) :
  Calls Tryz.prog 131 #[.string (S l)] w (SaidS (elemL l) w):=by
 have HD:=Hd (deep_any l w hlim);unfold SaidN at HD;by_cases h0:depN l=0
 ·have HE:=Hd (show elemL l=[] by
   unfold elemL;rw [if_neg];rintro ⟨hr,hd⟩;rw [depN_right hr] at h0;omega)
  rw [h0] at HD;clear h0;go_enter Tryz.func131,Tryz.ntmps131
  go_wp2_with fail
  refine HD.out.mono ?_;rintro e w' ⟨rfl,hb⟩;go_wp2;go_ret;exact ⟨by rw [HE.out];rfl,hb⟩
 ·have hr:rightB l=true:=by
   cases hr:rightB l with
   | true=>rfl
   | false=>exact absurd (depN_not hr) h0
  have hd:1<=deepN l:=by rw [depN_right hr] at h0;omega
  have he:=deep_ends hd;have HE:=Hd (show elemL l=l.take (l.length - 2) by unfold elemL;rw [if_pos ⟨hr,hd⟩]);have HT:=Hd (fun w=>trimsuf_yes l w hlim he);have hlen:l.length<=281474976710656:=by
   have hr':=hr;unfold rightB at hr';simp only [Bool.and_eq_true] at hr';have h1:=(nameB_pos (baseB_name hr'.2)).2;rw [baseL_length] at h1;have h2:=deepN_le l;have h3:=hr'.1;simp at h3
   omega
  have HC:=Hd (fun w=>sclone_any (S (l.take (l.length - 2))) w (by rw [S_size,List.length_take];omega));clear hlen;have hne:((depN l:Int) == 0)=false:=by rw [beq_eq_false_iff_ne];omega
  clear hr hd he h0;generalize depN l=N at *;go_enter Tryz.func131,Tryz.ntmps131
  go_wp2_with fail
  refine HD.out.mono ?_;rintro e w' ⟨rfl,hb⟩
  go_wp2_with fail
  refine (HT.out _).mono ?_;rintro e w2 ⟨rfl,rfl⟩
  go_wp2_with fail
  refine (HC.out _).mono ?_;rintro e w2 ⟨rfl,hb2⟩;go_wp2;go_ret;exact ⟨by rw [HE.out];rfl,hb.trans (hb2.mono hb.size)⟩
def SaidParts (l:List UInt8) (w:World) (e:Ending) (w':World):Prop:=
 (if partsB l=true then e=.returned (.tuple #[.string (S (l.take (dotAt l))),.string (S (l.drop (dotAt l+1))),.int .i64 0]) else e=.returned (.tuple #[.string ⟨#[]⟩,.string ⟨#[]⟩,.int .i64 30]))/\Below w.heap.size w w'
theorem below_drewN (w:World) (q:Nat):Below w.heap.size w (w.drewN q):=by
 induction q with
 | zero=>exact Below.refl _ _
 | succ q ih=>exact ih.drew
theorem parts_any (l:List UInt8) (w:World) (hlim:l.length<=9223372036854775807) :
  Calls Tryz.prog 291 #[.string (S l)] w (SaidParts l w):=by
 go_enter Tryz.func291,Tryz.ntmps291
 go_wp2_with fail
 refine (cut_any l w hlim).mono ?_;rintro e w' ⟨⟨q,rfl⟩,hc⟩;have hb0:=below_drewN w q;generalize w.drewN q=w1 at *;rcases hc with ⟨hd,rfl⟩|⟨hd,rfl⟩
 ·have HP:=Hd (show partsB l=(classB (l.take (dotAt l)) && memberB (l.drop (dotAt l+1))) by unfold partsB;rw [decide_eq_true hd,Bool.true_and]);have HA:=Hd (fun w=>class_any (l.take (dotAt l)) w (by rw [List.length_take];omega));have HB:=Hd (fun w=>named_lo (l.drop (dotAt l+1)) w (by rw [List.length_drop];omega));have HC1:=Hd (fun w (hcb:classB (l.take (dotAt l))=true)=>sclone_any (S (l.take (dotAt l))) w (by have q:=(nameB_pos (classB_name hcb)).2;rw [S_size];omega));have HC2:=Hd (fun w (hmb:memberB (l.drop (dotAt l+1))=true)=>sclone_any (S (l.drop (dotAt l+1))) w (by unfold memberB at hmb;rw [Bool.and_eq_true] at hmb;have q:=(nameB_pos hmb.1).2;rw [S_size];omega));unfold Said at HA HB;clear hd;have HF:Hid (∀ e w',(if partsB l=true then e=.returned (.tuple #[.string (S (l.take (dotAt l))),.string (S (l.drop (dotAt l+1))),.int .i64 0]) else e=.returned (.tuple #[.string ⟨#[]⟩,.string ⟨#[]⟩,.int .i64 30]))->Below w.heap.size w w'->SaidParts l w e w'):=fun e w' h h2=>⟨h,h2⟩
  generalize S (l.take (dotAt l))=A at *;generalize S (l.drop (dotAt l+1))=B at *;generalize memberB (l.drop (dotAt l+1))=mb at *;generalize classB (l.take (dotAt l))=cb at *;cases cb with
  | false=>
   go_wp2_with fail
   refine (HA.out _).mono ?_;rintro e w2 ⟨rfl,hb2⟩;go_wp2
   go_ret3;exact HF.out _ _ (by rw [HP.out];rfl) (hb0.trans (hb2.mono hb0.size))
  | true=>
   cases mb with
   | false=>
    go_wp2_with fail
    refine (HA.out _).mono ?_;rintro e w2 ⟨rfl,hb2⟩
    go_wp2_with fail
    refine (HB.out _).mono ?_;rintro e w3 ⟨rfl,hb3⟩;have b2:=hb0.trans (hb2.mono hb0.size);have b3:=b2.trans (hb3.mono b2.size);go_wp2
    go_ret3;exact HF.out _ _ (by rw [HP.out];rfl) b3
   | true=>
    go_wp2_with fail
    refine (HA.out _).mono ?_;rintro e w2 ⟨rfl,hb2⟩
    go_wp2_with fail
    refine (HB.out _).mono ?_;rintro e w3 ⟨rfl,hb3⟩
    go_wp2_with fail
    refine (HC1.out _ trivial).mono ?_;rintro e w4 ⟨rfl,hb4⟩
    go_wp2_with fail
    refine (HC2.out _ trivial).mono ?_;rintro e w5 ⟨rfl,hb5⟩;have b2:=hb0.trans (hb2.mono hb0.size);have b3:=b2.trans (hb3.mono b2.size);have b4:=b3.trans (hb4.mono b3.size);have b5:=b4.trans (hb5.mono b4.size);go_wp2
    go_ret3;exact HF.out _ _ (by rw [HP.out];rfl) b5
 ·have HP:=Hd (show partsB l=false by unfold partsB;rw [decide_eq_false (show ¬ dotAt l<l.length by omega),Bool.false_and]);have HA:=Hd (fun w=>class_any l w hlim);have HB:=Hd (fun w=>named_lo [] w (by simp));rw [show memberB []=false from rfl] at HB;unfold Said at HA HB;clear hd;cases hcb:classB l with
  | false=>
   rw [hcb] at HA;clear hcb
   go_wp2_with fail
   refine (HA.out _).mono ?_;rintro e w2 ⟨rfl,hb2⟩;go_wp2
   go_ret3;exact ⟨by rw [HP.out];rfl,hb0.trans (hb2.mono hb0.size)⟩
  | true=>
   rw [hcb] at HA;clear hcb
   go_wp2_with fail
   refine (HA.out _).mono ?_;rintro e w2 ⟨rfl,hb2⟩
   go_wp2_with fail
   refine (HB.out _).mono ?_;rintro e w3 ⟨rfl,hb3⟩;have b2:=hb0.trans (hb2.mono hb0.size);have b3:=b2.trans (hb3.mono b2.size);go_wp2
   go_ret3;exact ⟨by rw [HP.out];rfl,b3⟩
theorem parts_yes (l:List UInt8) (w:World) (hlim:l.length<=9223372036854775807) (h:partsB l=true) :
  Calls Tryz.prog 291 #[.string (S l)] w fun e w'=>e=.returned (.tuple #[.string (S (l.take (dotAt l))),.string (S (l.drop (dotAt l+1))),.int .i64 0])/\Below w.heap.size w w':=by
 refine (parts_any l w hlim).mono ?_;rintro e w' ⟨h1,h2⟩;rw [if_pos h] at h1;exact ⟨h1,h2⟩
theorem parts_no (l:List UInt8) (w:World) (hlim:l.length<=9223372036854775807) (h:partsB l=false) :
  Calls Tryz.prog 291 #[.string (S l)] w fun e w'=>e=.returned (.tuple #[.string ⟨#[]⟩,.string ⟨#[]⟩,.int .i64 30])/\Below w.heap.size w w':=by
 refine (parts_any l w hlim).mono ?_;rintro e w' ⟨h1,h2⟩;rw [if_neg (by rw [h];decide)] at h1;exact ⟨h1,h2⟩
theorem of_yes (l:List UInt8) (w:World) (hlim:l.length<=9223372036854775807) (h:rightB l=true) (h2:deepN l<=2) :
  Calls Tryz.prog 290 #[.string (S l)] w fun e w'=>e=.returned (.tuple #[.string (S (ofL l)),.int .i64 0])/\Below w.heap.size w w':=by
 refine (of_any l w hlim).mono ?_;rintro e w' ⟨h3,h4⟩;rw [if_pos ⟨h,h2⟩] at h3;exact ⟨h3,h4⟩
theorem of_no (l:List UInt8) (w:World) (hlim:l.length<=9223372036854775807) (h:¬ (rightB l=true/\deepN l<=2)) :
  Calls Tryz.prog 290 #[.string (S l)] w fun e w'=>e=.returned (.tuple #[.string ⟨#[]⟩,.int .i64 30])/\Below w.heap.size w w':=by
 refine (of_any l w hlim).mono ?_;rintro e w' ⟨h3,h4⟩;rw [if_neg h] at h3;exact ⟨h3,h4⟩
end Go.Proofs.YtpincofjopmaaaaGreatDoor
namespace Go.Proofs.YtpincofjopmaaaaGreatDoor
open Go.Shelf
def laysRen:Go.Shelf.Ren:=⟨fun|196=>253|259=>275|n=>n,fun|9=>9|4=>4|3=>3|5=>5|12=>12|119=>268|0=>0|46=>272|139=>271|138=>270|53=>213|n=>n,fun|3=>2|4=>3|n=>n⟩
theorem laysValid:Lays.n196 Tryz.prog laysRen:={
 mixed:=by kernel_rfl
 f196:=Tryz.func253.trans (congrArg some (by kernel_rfl))
 f259:=Tryz.func275.trans (congrArg some (by kernel_rfl))
 t0:=Tryz.underlying0
 a0:=Tryz.isAgg0
 z0:=Tryz.sizeOf0
 v0:=Tryz.zeroValue0
 t3:=Tryz.underlying3
 a3:=Tryz.isAgg3
 z3:=Tryz.sizeOf3
 v3:=Tryz.zeroValue3
 t4:=Tryz.underlying4
 a4:=Tryz.isAgg4
 z4:=Tryz.sizeOf4
 v4:=Tryz.zeroValue4
 t5:=Tryz.underlying5
 a5:=Tryz.isAgg5
 z5:=Tryz.sizeOf5
 v5:=Tryz.zeroValue5
 t9:=Tryz.underlying9
 a9:=Tryz.isAgg9
 z9:=Tryz.sizeOf9
 v9:=Tryz.zeroValue9
 t12:=Tryz.underlying12
 a12:=Tryz.isAgg12
 z12:=Tryz.sizeOf12
 v12:=Tryz.zeroValue12
 t46:=Tryz.underlying272
 a46:=Tryz.isAgg272
 z46:=Tryz.sizeOf272
 v46:=Tryz.zeroValue272
 t53:=Tryz.underlying213
 a53:=Tryz.isAgg213
 z53:=Tryz.sizeOf213
 v53:=Tryz.zeroValue213
 t119:=Tryz.underlying268
 a119:=Tryz.isAgg268
 z119:=Tryz.sizeOf268
 t138:=Tryz.underlying270
 a138:=Tryz.isAgg270
 z138:=Tryz.sizeOf270
 v138:=Tryz.zeroValue270
 t139:=Tryz.underlying271
 a139:=Tryz.isAgg271
 z139:=Tryz.sizeOf271
 v139:=Tryz.zeroValue271
 g3:=by kernel_rfl
 g4:=by kernel_rfl }
end Go.Proofs.YtpincofjopmaaaaGreatDoor
