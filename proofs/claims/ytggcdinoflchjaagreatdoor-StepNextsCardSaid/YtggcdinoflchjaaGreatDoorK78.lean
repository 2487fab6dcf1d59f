/- laws -/
import Derived.Test.YtggcdinoflchjaaGreatDoorK77
set_option maxRecDepth 100000
set_option maxHeartbeats 16000000
namespace Go.Proofs.YtggcdinoflchjaaGreatDoor
open Go.RowKit
def ZiG:List UInt8:=[106,117,109,112]
def ZdS:List UInt8:=[98,114,97,110,99,104]
def Zes:List UInt8:=[114,101,116,117,114,110]
def Zf2:List UInt8:=[116,104,114,111,119]
def Zdp (x:Ins) (a:Int):List Int:=if x.op == ZiG then [x.n] else if x.op == ZdS then [a,x.n] else if x.op == Zes then [] else if x.op == Zf2 then [] else [a]
def Zpx (l:List Int) (w:World) (e:Ending) (w':World):Prop:=∃ v,e=.returned v/\Src 1 Num7R Anyw w' v l/\Below w.heap.size w w'
theorem Zo6 (x:Ins) (a:Int) (w:World):Calls Tryz.prog 36 #[Zho x,.int .i64 a] w (Zpx (Zdp x a) w):=by
 obtain ⟨op,n,s⟩:=x;have e0:=Zae op;unfold Zpx;obtain ⟨L,hL⟩:∃ L,L=Zdp ⟨op,n,s⟩ a:=⟨_,rfl⟩
 rw [←hL];unfold Zdp ZiG ZdS Zes Zf2 at hL;have HL:=Hd hL;clear hL;cases h1:(op == [106,117,109,112])
 ·cases h2:(op == [98,114,97,110,99,104])
  ·cases h3:(op == [114,101,116,117,114,110])
   ·cases h4:(op == [116,104,114,111,119])
    ·have HE:Hid (L=[a]):=Hd (by have:=HL.out;simpa [h1,h2,h3,h4] using this);go_enter Tryz.func36,Tryz.ntmps36;go_wp2;go_ret;rw [HE.out];exact ⟨_,rfl,Zby [a] [num7 a] 1 _ rfl rfl (by simp) (fun k x u hx hu=>by
           cases k with
           | zero=>simp at hx hu;subst hx hu;rfl
           | succ k=>simp at hx) (fun u hu=>by simp at hu;subst hu;rfl) rfl (Zag (w.alloc _) _ _ (by simp)),Zaa (Zaa (Below.refl _ _) _) _⟩
    ·have HE:Hid (L=[]):=Hd (by have:=HL.out;simpa [h1,h2,h3,h4] using this);go_enter Tryz.func36,Tryz.ntmps36;go_wp2;go_ret;rw [HE.out];exact ⟨_,rfl,Src.nil,Zaa (Below.refl _ _) _⟩
   ·have HE:Hid (L=[]):=Hd (by have:=HL.out;simpa [h1,h2,h3] using this);go_enter Tryz.func36,Tryz.ntmps36;go_wp2;go_ret;rw [HE.out];exact ⟨_,rfl,Src.nil,Zaa (Below.refl _ _) _⟩
  ·have HE:Hid (L=[a,n]):=Hd (by have:=HL.out;simpa [h1,h2] using this);go_enter Tryz.func36,Tryz.ntmps36;go_wp2;go_ret;rw [HE.out];exact ⟨_,rfl,Zby [a,n] [num7 a,num7 n] 2 _ rfl rfl (by simp) (fun k x u hx hu=>by
         match k,hx,hu with
         | 0,hx,hu=>simp at hx hu;subst hx hu;rfl
         | 1,hx,hu=>simp at hx hu;subst hx hu;rfl
         | k+2,hx,_=>simp at hx) (fun u hu=>by simp at hu;rcases hu with rfl|rfl <;> rfl) rfl (Zag (w.alloc _) _ _ (by simp)),Zaa (Zaa (Below.refl _ _) _) _⟩
 ·have HE:Hid (L=[n]):=Hd (by have:=HL.out;simpa [h1] using this);go_enter Tryz.func36,Tryz.ntmps36;go_wp2;go_ret;rw [HE.out];exact ⟨_,rfl,Zby [n] [num7 n] 1 _ rfl rfl (by simp) (fun k x u hx hu=>by
        cases k with
        | zero=>simp at hx hu;subst hx hu;rfl
        | succ k=>simp at hx) (fun u hu=>by simp at hu;subst hu;rfl) rfl (Zag (w.alloc _) _ _ (by simp)),Zaa (Zaa (Below.refl _ _) _) _⟩
def inR (m:Nat) (z:Int):Bool:=decide (0<=z) && decide (z<(m:Int))
theorem ZmZ (z:Int) (b m c:Nat) (so:Option Addr) (w:World) (hc:w.cell? ⟨b,0,none⟩=some (.slice so m c)):Calls Tryz.prog 35 #[.int .i64 z,.pointer (some ⟨b,0,none⟩)] w (Said (inR m z) w):=by
 unfold inR;by_cases h1:0<=z
 ·by_cases h2:z<(m:Int)
  ·rw [decide_eq_true h1,decide_eq_true h2];go_enter Tryz.func35,Tryz.ntmps35;go_wp2;go_ret;exact ⟨rfl,Below.refl _ _⟩
  ·rw [decide_eq_true h1,decide_eq_false h2];go_enter Tryz.func35,Tryz.ntmps35;go_wp2;go_ret;exact ⟨rfl,Below.refl _ _⟩
 ·rw [decide_eq_false h1];go_enter Tryz.func35,Tryz.ntmps35;go_wp2;go_ret;exact ⟨rfl,Below.refl _ _⟩
def ZeF (l:List Ins) (at_:Int):Option (List Int):=
 if inR l.length at_=true then match l[at_.toNat]? with
  | some x=>if (Zdp x (at_+1)).all (inR l.length)=true then some (Zdp x (at_+1)) else none
  | none=>none
 else none
def Zh9 (o:Option (List Int)) (w:World) (e:Ending) (w':World):Prop:=∃ v,e=.returned (.tuple #[v,.bool o.isSome])/\Src 1 Num7R Anyw w' v (o.getD [])/\Below w.heap.size w w'
theorem ZoI {A:Nat->Prop} (l:List Ins) (at_:Int) (sv:Value) (w:World) (hs:Src 3 InsR A w sv l) (hl:l.length<=1000) (hat:i64 at_):Calls Tryz.prog 18 #[sv,.int .i64 at_] w (Zh9 (ZeF l at_) w):=by
 have hmf:∀ (fn:Fn) (first cap:Array Value) (w:World),(Instr.makeFunc fn first cap).run Tryz.prog w=.ok (.func fn first cap) w:=fun _ _ _ _=>rfl
 have HN1:Hid (∀ (z:Int) (b c:Nat) so W,W.cell? ⟨b,0,none⟩=some (.slice so l.length c)->Calls Tryz.prog 35 #[.int .i64 z,.pointer (some ⟨b,0,none⟩)] W (Said (inR l.length z) W)):=Hd (fun z b c so W h=>ZmZ z b l.length c so W h);obtain ⟨so,sc,rfl⟩:=hs.shape;have HE:=Hd (Src.elem hs);obtain ⟨m,hm⟩:∃ m,m=l.length:=⟨_,rfl⟩
 have HM:=Hd hm;obtain ⟨O,hO⟩:∃ O,O=ZeF l at_:=⟨_,rfl⟩
 rw [←hO];unfold ZeF at hO;rw [←hm] at HN1 hl hO ⊢;have HO:=Hd hO;clear hs hm hO;unfold Zh9;go_enter Tryz.func18,Tryz.ntmps18
 go_wp2_with fail
 have hb1:(w.alloc (.cells #[.slice so m sc] 37)).cell? ⟨w.heap.size,0,none⟩=some (.slice so m sc):=(Box.new w #[.slice so m sc] 37).cell 0 rfl;with_reducible refine (HN1.out at_ w.heap.size sc so _ hb1).mono ?_
 rintro e w1 ⟨rfl,hb⟩;have HB:=Hd ((Zaa (Below.refl _ w) (.cells #[.slice so m sc] 37)).trans (hb.mono (by simp)));have HBX:=Hd ((Box.new w #[.slice so m sc] 37).below hb);clear hb hb1;cases hin:inR m at_ with
 | false=>
  have hON:O=none:=by have:=HO.out;rw [hin] at this;simpa using this
  subst hON;go_wp2
  go_ret2
  exact ⟨_,rfl,Src.nil,HB.out⟩
 | true=>
  have hin2:0<=at_/\at_<(m:Int):=by unfold inR at hin;simpa using hin
  obtain ⟨k,rfl⟩:∃ k:Nat,at_=(k:Int):=⟨at_.toNat,by omega⟩
  have hkm:k<m:=by omega
  obtain ⟨x,hx⟩:∃ x,l[k]? = some x:=⟨_,List.getElem?_eq_getElem (by rw [←HM.out];exact hkm)⟩
  have HO2:Hid (O=if (Zdp x (k+1)).all (inR m)=true then some (Zdp x (k+1)) else none):=Hd (by
   have:=HO.out;rw [hin,if_pos rfl,show ((k:Nat):Int).toNat=k from rfl,hx] at this;exact this)
  obtain ⟨b,o,v,rfl,hv,_,hcl⟩:=HE.out k x hx;obtain rfl:=hv;have hoW:=Only.ofBelow (S:=fun _=>False) HB.out;have d0:w1.cell? ⟨b,o+k * 3,none⟩=some (.string (S x.op)):=hoW.cell (a:=⟨b,o+k * 3,none⟩) (hcl 0 _ rfl) id;have d1:w1.cell? ⟨b,o+k * 3+1,none⟩=some (.int .i64 x.n):=hoW.cell (a:=⟨b,o+k * 3+1,none⟩) (hcl 1 _ rfl) id;have d2:w1.cell? ⟨b,o+k * 3+2,none⟩=some (.string (S x.s)):=hoW.cell (a:=⟨b,o+k * 3+2,none⟩) (hcl 2 _ rfl) id;have b0:w1.cell? ⟨w.heap.size,0,none⟩=some (.slice (some ⟨b,o,none⟩) m sc):=HBX.out.cell 0 rfl;have HSU:=Hd (fun W=>Zo6 x ((k:Int)+1) W);have hk0:(0:Int)<=(k:Int):=by omega
  have hkm2:(k:Int)<(m:Int):=by omega
  clear hin hin2 hcl hoW hx HO
  go_wp2_with fail
  with_reducible refine (HSU.out _).mono ?_
  unfold Zpx;rintro e w2 ⟨v,rfl,hsv,hb2⟩;obtain ⟨so2,sc2,rfl⟩:=hsv.shape;obtain ⟨q,hq⟩:∃ q,q=(Zdp x ((k:Int)+1)).length:=⟨_,rfl⟩
  have HS2:=Hd (Src.elem hsv);have HB2:=Hd hb2;rw [←hq];have HQ:=Hd hq;clear hsv hb2 hq;obtain ⟨L,hL⟩:∃ L,L=Zdp x ((k:Int)+1):=⟨_,rfl⟩
  rw [←hL] at HS2 HQ HO2;have hqs:L.length<=2:=by
   rw [hL];unfold Zdp;split <;> (try split) <;> (try split) <;> (try split) <;> simp
  have HQS:=Hd hqs;clear hL hqs d0 d1 d2 b0 HSU;go_wp2
  go_loopw [7,23] (fun v7 v23 wr=>∃ i:Nat,i<=q/\v23=.int .i64 i/\(L.take i).all (inR m)=true/\KI w2.heap.size wr v7 (L.take i)/\Below w2.heap.size w2 wr) (fun _ v23 _=>q - (intOf v23).toNat)
  case atStart=>exact ⟨0,Nat.zero_le _,rfl,rfl,KRF.nil _ _ _ _,Below.refl _ _⟩
  case round=>
   obtain ⟨i,hi,rfl,hall,hki,hbw⟩:=hrel;have HA:=Hd hall;have HB3:=Hd hbw;have hlt1:(L.take i).length=i:=by rw [List.length_take,←HQ.out];omega
   have HKI:=Hd hki;obtain ⟨ao,ac,rfl⟩:=hki.shape;rw [hlt1] at HKI ⊢;have HL1:=Hd hlt1;clear hall hki hbw hlt1;have hq2:q<=2:=by have h1:=HQS.out;have h2:=HQ.out;omega
   by_cases hlt:i<q
   ·obtain ⟨z,hz⟩:∃ z,L[i]? = some z:=⟨_,List.getElem?_eq_getElem (by rw [←HQ.out];exact hlt)⟩
    obtain ⟨b2,o2,v2,rfl,hv2,_,hcl2⟩:=HS2.out i z hz;obtain rfl:=hv2;have HZ:=Hd hz;have HB03:Hid (Below w.heap.size w wr):=Hd ((HB.out.trans (HB2.out.mono HB.out.size)).trans (HB3.out.mono (HB.out.trans (HB2.out.mono HB.out.size)).size));have d0:wr.cell? ⟨b2,o2+i,none⟩=some (.int .i64 z):=(Only.ofBelow (S:=fun _=>False) HB3.out).cell (a:=⟨b2,o2+i,none⟩) (by have q:=hcl2 0 _ rfl;rw [Nat.mul_one] at q;exact q) id;have hcx:wr.cell? ⟨w.heap.size,0,none⟩=some (.slice (some ⟨b,o,none⟩) m sc):=(HBX.out.keep (S:=fun _=>False) (Only.ofBelow (HB2.out.trans (HB3.out.mono HB2.out.size))) id).cell 0 rfl;have HCX:=Hd (HN1.out z w.heap.size sc _ wr hcx);have hi0:(0:Int)<=(i:Int):=by omega
    have hiq:(i:Int)<(q:Int):=by omega
    clear hz hcl2
    go_wp2_with fail
    with_reducible refine HCX.out.mono ?_
    rintro e w3 ⟨rfl,hb3⟩;have HB4:=Hd (HB3.out.trans (hb3.mono HB3.out.size));have HKJ:=Hd (HKI.out.below hb3);clear hb3 d0 hcx HCX;have HT1:Hid (L.take (i+1)=L.take i++[z]):=Hd (by rw [List.take_add_one,HZ.out];rfl);cases hzr:inR m z with
    | false=>
     have hON:O=none:=by
      rw [HO2.out,if_neg];intro h;rw [List.all_eq_true] at h;rw [h z (List.mem_of_getElem? HZ.out)] at hzr;cases hzr
     subst hON;have HBE:=Hd ((HB.out.trans (HB2.out.mono HB.out.size)).trans (HB4.out.mono (HB.out.trans (HB2.out.mono HB.out.size)).size));go_wp2
     go_ret2
     exact ⟨_,rfl,Src.nil,HBE.out⟩
    | true=>
     obtain ⟨j0,hji,hz0,hz1,hz2⟩:=info_parts Ze3;have HAP:=Hd (fun ty=>KRF.append (P:=Tryz.prog) (w:=w3.alloc (.cells #[.int .i64 z] 3)) (b:=w3.heap.size) (o:=0) (m:=1) (c:=1) (xs:=[z]) Zfk 38 ty j0 _ 8 Tryz.underlying38 hji hz0 hz1 hz2 rfl (HKJ.out.below (Zaa (Below.refl _ _) _)) (by have:=HB4.out.size;simp;omega) rfl (fun k x hk=>by
      cases k with
      | zero=>simp at hk;subst hk;exact (Box.new w3 #[.int .i64 z] 3).cell 0 rfl
      | succ k=>simp at hk) (by have:=HQS.out;simp;omega) (by have:=HQS.out;simp;omega))
     clear hji hz0 hz1 hz2
     go_wp2_with (at_builtin;(obtain ⟨v',w',hrun,hc,hg⟩:=HAP.out _;refine Zaj rfl _ _ 38 rfl _ _ v' w' rfl rfl hrun ?_))
     go_roundw
     case rel=>
      have hb5:Below w2.heap.size w3 (w3.alloc (.cells #[.int .i64 z] 3)):=(Below.refl _ _).alloc HB4.out.size _;refine ⟨i+1,by omega,by go_num,?_,?_,(HB4.out.trans hb5).trans (hg.only.below (HB4.out.trans hb5).size (fun g h=>(HKJ.out.own g h).1))⟩
      ·rw [HT1.out,List.all_append,HA.out];simp [hzr]
      ·rw [HT1.out];exact hc
     case measure=>simp [intOf];omega
   ·obtain rfl:q=i:=by omega
    have hTL:L.take q=L:=by rw [HQ.out,List.take_length]
    have hON:O=some L:=by rw [HO2.out,if_pos (by rw [←hTL];exact HA.out)]
    subst hON;have HBE:=Hd ((HB.out.trans (HB2.out.mono HB.out.size)).trans (HB3.out.mono (HB.out.trans (HB2.out.mono HB.out.size)).size));have HSE:=Hd (HKI.out.src ZdN);rw [hTL] at HSE;clear hTL;go_wp2
    go_ret2
    exact ⟨_,rfl,Num7R.st.any HSE.out,HBE.out⟩
theorem ZpY {l:List Ins} {k:Nat} {x:Ins} (hx:l[k]? = some x):ZeF l (k:Int)=if (Zdp x ((k:Int)+1)).all (inR l.length)=true then some (Zdp x ((k:Int)+1)) else none:=by
 have hk:k<l.length:=(List.getElem?_eq_some_iff.1 hx).1;unfold ZeF;rw [if_pos (by unfold inR;simp;exact hk),show ((k:Nat):Int).toNat=k from rfl,hx]
theorem Zjv {l:List Ins} {a:Int} (h:inR l.length a=false):ZeF l a=none:=by
 unfold ZeF;rw [h];rfl
theorem Znv {A:Nat->Prop} (l:List Ins) (at_:Int) (sv:Value) (w:World) (hs:Src 3 InsR A w sv l) (hl:l.length<=1000) (hat:i64 at_):Calls Tryz.prog 19 #[sv,.int .i64 at_] w (Zh9 (ZeF l at_) w):=by
 obtain ⟨so,sc,rfl⟩:=hs.shape;have HE:=Hd (Src.elem hs);obtain ⟨m,hm⟩:∃ m,m=l.length:=⟨_,rfl⟩
 have HM:=Hd hm;obtain ⟨O,hO⟩:∃ O,O=ZeF l at_:=⟨_,rfl⟩
 rw [←hO];have HO:=Hd hO;rw [←hm] at hl ⊢;clear hs hm hO;unfold Zh9;by_cases hneg:at_<0
 ·have hON:O=none:=by rw [HO.out];exact Zjv (by unfold inR;rw [decide_eq_false (by omega),Bool.false_and])
  subst hON;go_enter Tryz.func19,Tryz.ntmps19;go_wp2
  go_ret2
  exact ⟨_,rfl,Src.nil,Below.refl _ _⟩
 by_cases hbig:(m:Int)<=at_
 ·have hON:O=none:=by rw [HO.out];exact Zjv (by unfold inR;rw [←HM.out,decide_eq_false (show ¬ at_<(m:Int) by omega),Bool.and_false])
  subst hON;go_enter Tryz.func19,Tryz.ntmps19;go_wp2
  go_ret2
  exact ⟨_,rfl,Src.nil,Below.refl _ _⟩
 obtain ⟨k,rfl⟩:∃ k:Nat,at_=(k:Int):=⟨at_.toNat,by omega⟩
 have hkm:k<m:=by omega
 obtain ⟨x,hx⟩:∃ x,l[k]? = some x:=⟨_,List.getElem?_eq_getElem (by rw [←HM.out];exact hkm)⟩
 have HO2:Hid (O=if (Zdp x ((k:Int)+1)).all (inR m)=true then some (Zdp x ((k:Int)+1)) else none):=Hd (by rw [HO.out,ZpY hx,←HM.out]);obtain ⟨b,o,v,rfl,hv,_,hcl⟩:=HE.out k x hx;obtain rfl:=hv;obtain ⟨op,n,s⟩:=x;have hbA:Below w.heap.size w (w.alloc (.cells #[] 3)):=Zaa (Below.refl _ _) _;have d0:w.cell? ⟨b,o+k * 3,none⟩=some (.string (S op)):=hcl 0 _ rfl;have d1:w.cell? ⟨b,o+k * 3+1,none⟩=some (.int .i64 n):=hcl 1 _ rfl;have d2:w.cell? ⟨b,o+k * 3+2,none⟩=some (.string (S s)):=hcl 2 _ rfl;have g0:=(Only.ofBelow (S:=fun _=>False) hbA).cell d0 id;have g1:=(Only.ofBelow (S:=fun _=>False) hbA).cell d1 id;have g2:=(Only.ofBelow (S:=fun _=>False) hbA).cell d2 id;have hk0:(0:Int)<=(k:Int):=by omega
 have hkm2:(k:Int)<(m:Int):=by omega
 have e0:=Zae op;clear hcl hx HO hneg hbig hbA d0 d1 d2 HE;cases h1:(op == [106,117,109,112])
 ·cases h2:(op == [98,114,97,110,99,104])
  ·cases h3:(op == [114,101,116,117,114,110])
   ·cases h4:(op == [116,104,114,111,119])
    ·have HE:Hid (O=if inR m ((k:Int)+1)=true then some [(k:Int)+1] else none):=Hd (by have:=HO2.out;simpa [Zdp,ZiG,ZdS,Zes,Zf2,h1,h2,h3,h4] using this);by_cases hq:(m:Int)<=(k:Int)+1
     ·have hON:O=none:=by rw [HE.out];unfold inR;rw [decide_eq_false (show ¬ (k:Int)+1<(m:Int) by omega),Bool.and_false,if_neg (by decide)]
      subst hON;go_enter Tryz.func19,Tryz.ntmps19;go_wp2
      go_ret2
      exact ⟨_,rfl,Src.nil,Zaa (Zaa (Below.refl _ _) _) _⟩
     ·have hON:O=some [(k:Int)+1]:=by rw [HE.out];unfold inR;rw [decide_eq_true (by omega),decide_eq_true (by omega)];rfl
      subst hON;have hd1:=(Box.new (w.alloc (.cells #[] 3)) #[.string (S op),.int .i64 n,.string (S s)] 48);have hsz1:(w.alloc (.cells #[] 3)).heap.size=w.heap.size+1:=by simp
      rw [hsz1] at hd1;have hW:Below w.heap.size w ((w.alloc (.cells #[] 3)).alloc (.cells #[.string (S op),.int .i64 n,.string (S s)] 48)):=Zaa (Zaa (Below.refl _ _) _) _;have hK:KI w.heap.size ((w.alloc (.cells #[] 3)).alloc (.cells #[.string (S op),.int .i64 n,.string (S s)] 48)) (.slice (some ⟨w.heap.size,0,none⟩) 0 0) []:=(KRF.empty num7 3 w.heap.size w (Nat.le_refl _)).below (Zaa (Below.refl _ _) _)

      have HSX:=Hd hd1;have HAP1:=Hd (fun ty=>ZfQ (B:=w.heap.size+1+1) ((k:Int)+1) hK hW.size (by simp) (by simp) ty);have HW:=Hd hW;clear hW hK hd1 hsz1;obtain ⟨v1,w1,hrun1,hc1,hg1,ho1⟩:=HAP1.out 38;have HR1:=Hd hrun1;have hbx:=HSX.out.keep ho1 (by simp [Value.ownBlock]);have c0:w1.cell? ⟨w.heap.size+1,0,none⟩=some (.string (S op)):=hbx.cell 0 rfl;have c1:w1.cell? ⟨w.heap.size+1,1,none⟩=some (.int .i64 n):=hbx.cell 1 rfl;have c2:w1.cell? ⟨w.heap.size+1,2,none⟩=some (.string (S s)):=hbx.cell 2 rfl;have HG1:=Hd hg1;have HC1:=Hd hc1;clear hrun1 hc1 hg1 ho1 hbx;go_enter Tryz.func19,Tryz.ntmps19
      go_wp2_with (at_builtin;(refine Zaj rfl _ _ 38 rfl _ _ v1 w1 rfl rfl HR1.out ?_))
      go_wp2
      go_ret2
      exact ⟨_,rfl,Num7R.st.any (HC1.out.src ZdN),HW.out.trans (HG1.out.mono (Nat.le_refl _))⟩
    ·have hON:O=some []:=by have:=HO2.out;simpa [Zdp,ZiG,ZdS,Zes,Zf2,h1,h2,h3,h4] using this
     subst hON;have hW:Below w.heap.size w ((w.alloc (.cells #[] 3)).alloc (.cells #[.string (S op),.int .i64 n,.string (S s)] 48)):=Zaa (Zaa (Below.refl _ _) _) _;have hK:KI w.heap.size ((w.alloc (.cells #[] 3)).alloc (.cells #[.string (S op),.int .i64 n,.string (S s)] 48)) (.slice (some ⟨w.heap.size,0,none⟩) 0 0) []:=(KRF.empty num7 3 w.heap.size w (Nat.le_refl _)).below (Zaa (Below.refl _ _) _);have HK:=Hd (hK.src ZdN);have HW:=Hd hW;clear hW hK;go_enter Tryz.func19,Tryz.ntmps19;go_wp2
     go_ret2
     exact ⟨_,rfl,Num7R.st.any HK.out,HW.out⟩
   ·have h4:(op == [116,104,114,111,119])=false:=by rw [eq_of_beq h3];decide
    have hON:O=some []:=by have:=HO2.out;simpa [Zdp,ZiG,ZdS,Zes,Zf2,h1,h2,h3] using this
    subst hON;have hW:Below w.heap.size w ((w.alloc (.cells #[] 3)).alloc (.cells #[.string (S op),.int .i64 n,.string (S s)] 48)):=Zaa (Zaa (Below.refl _ _) _) _;have hK:KI w.heap.size ((w.alloc (.cells #[] 3)).alloc (.cells #[.string (S op),.int .i64 n,.string (S s)] 48)) (.slice (some ⟨w.heap.size,0,none⟩) 0 0) []:=(KRF.empty num7 3 w.heap.size w (Nat.le_refl _)).below (Zaa (Below.refl _ _) _);have HK:=Hd (hK.src ZdN);have HW:=Hd hW;clear hW hK;go_enter Tryz.func19,Tryz.ntmps19;go_wp2
    go_ret2
    exact ⟨_,rfl,Num7R.st.any HK.out,HW.out⟩
  ·have h3:(op == [114,101,116,117,114,110])=false:=by rw [eq_of_beq h2];decide
   have h4:(op == [116,104,114,111,119])=false:=by rw [eq_of_beq h2];decide
   have HE:Hid (O=if inR m ((k:Int)+1)=true then (if inR m n=true then some [(k:Int)+1,n] else none) else none):=Hd (by
    have:=HO2.out;rw [this];simp only [Zdp,ZiG,ZdS,h1,h2,List.all_cons,List.all_nil,Bool.and_true,Bool.false_eq_true,if_false,if_true];cases inR m ((k:Int)+1) <;> cases inR m n <;> rfl)
   by_cases hq:(m:Int)<=(k:Int)+1
   ·have hON:O=none:=by rw [HE.out];unfold inR;rw [decide_eq_false (show ¬ (k:Int)+1<(m:Int) by omega),Bool.and_false,if_neg (by decide)]
    subst hON;go_enter Tryz.func19,Tryz.ntmps19;go_wp2
    go_ret2
    exact ⟨_,rfl,Src.nil,Zaa (Zaa (Below.refl _ _) _) _⟩
   have HE2:Hid (O=if inR m n=true then some [(k:Int)+1,n] else none):=Hd (by rw [HE.out,if_pos];unfold inR;rw [decide_eq_true (by omega),decide_eq_true (by omega)];rfl);have hd1:=(Box.new (w.alloc (.cells #[] 3)) #[.string (S op),.int .i64 n,.string (S s)] 48);have hsz1:(w.alloc (.cells #[] 3)).heap.size=w.heap.size+1:=by simp
   rw [hsz1] at hd1;have hW:Below w.heap.size w ((w.alloc (.cells #[] 3)).alloc (.cells #[.string (S op),.int .i64 n,.string (S s)] 48)):=Zaa (Zaa (Below.refl _ _) _) _;have hK:KI w.heap.size ((w.alloc (.cells #[] 3)).alloc (.cells #[.string (S op),.int .i64 n,.string (S s)] 48)) (.slice (some ⟨w.heap.size,0,none⟩) 0 0) []:=(KRF.empty num7 3 w.heap.size w (Nat.le_refl _)).below (Zaa (Below.refl _ _) _);have HSX:=Hd hd1;have HAP1:=Hd (fun ty=>ZfQ (B:=w.heap.size+1+1) ((k:Int)+1) hK hW.size (by simp) (by simp) ty);have HW:=Hd hW;clear hW hK hd1 hsz1;by_cases hr:inR m n=true
   ·have hON:O=some [(k:Int)+1,n]:=by rw [HE2.out,if_pos hr]
    subst hON;have hr2:0<=n/\n<(m:Int):=by unfold inR at hr;simpa using hr
    have hr3:=hr2.1;have hr4:=hr2.2;clear hr2 hr;obtain ⟨v1,w1,hrun1,hc1,hg1,ho1⟩:=HAP1.out 38;have HR1:=Hd hrun1;have hbx:=HSX.out.keep ho1 (by simp [Value.ownBlock]);have c0:w1.cell? ⟨w.heap.size+1,0,none⟩=some (.string (S op)):=hbx.cell 0 rfl;have c1:w1.cell? ⟨w.heap.size+1,1,none⟩=some (.int .i64 n):=hbx.cell 1 rfl;have c2:w1.cell? ⟨w.heap.size+1,2,none⟩=some (.string (S s)):=hbx.cell 2 rfl;have HG1:=Hd hg1;have HC1:=Hd hc1;clear hrun1 hc1 hg1 ho1 hbx;obtain ⟨v2,w2,hrun2,hc2,hg2⟩:=Zhp (B:=w1.heap.size) n HC1.out (Nat.le_trans HW.out.size HG1.out.size) (by simp) rfl 38;have HR2:=Hd hrun2;have HC2:=Hd hc2;have HG2:=Hd hg2;clear hrun2 hc2 hg2;go_enter Tryz.func19,Tryz.ntmps19
    go_wp2_with (at_builtin;first|(refine Zaj rfl _ _ 38 rfl _ _ v1 w1 rfl rfl HR1.out ?_)|(refine Zaj rfl _ _ 38 rfl _ _ v2 w2 rfl rfl HR2.out ?_))
    go_ret2
    exact ⟨_,rfl,Num7R.st.any (HC2.out.src ZdN),(HW.out.trans (HG1.out.mono (Nat.le_refl _))).trans HG2.out⟩
   have hON:O=none:=by rw [HE2.out,if_neg hr]
   subst hON;by_cases hn0:n<0
   ·clear hr;obtain ⟨v1,w1,hrun1,hc1,hg1,ho1⟩:=HAP1.out 38;have HR1:=Hd hrun1;have hbx:=HSX.out.keep ho1 (by simp [Value.ownBlock]);have c0:w1.cell? ⟨w.heap.size+1,0,none⟩=some (.string (S op)):=hbx.cell 0 rfl;have c1:w1.cell? ⟨w.heap.size+1,1,none⟩=some (.int .i64 n):=hbx.cell 1 rfl;have c2:w1.cell? ⟨w.heap.size+1,2,none⟩=some (.string (S s)):=hbx.cell 2 rfl;have HG1:=Hd hg1;have HC1:=Hd hc1;clear hrun1 hc1 hg1 ho1 hbx;go_enter Tryz.func19,Tryz.ntmps19
    go_wp2_with (at_builtin;(refine Zaj rfl _ _ 38 rfl _ _ v1 w1 rfl rfl HR1.out ?_))
    go_wp2
    go_ret2
    exact ⟨_,rfl,Src.nil,HW.out.trans (HG1.out.mono (Nat.le_refl _))⟩
   have hn1:(m:Int)<=n:=by
    have:¬ (0<=n/\n<(m:Int)):=fun h=>hr (by unfold inR;rw [decide_eq_true h.1,decide_eq_true h.2];rfl)
    omega
   clear hr;obtain ⟨v1,w1,hrun1,hc1,hg1,ho1⟩:=HAP1.out 38;have HR1:=Hd hrun1;have hbx:=HSX.out.keep ho1 (by simp [Value.ownBlock]);have c0:w1.cell? ⟨w.heap.size+1,0,none⟩=some (.string (S op)):=hbx.cell 0 rfl;have c1:w1.cell? ⟨w.heap.size+1,1,none⟩=some (.int .i64 n):=hbx.cell 1 rfl;have c2:w1.cell? ⟨w.heap.size+1,2,none⟩=some (.string (S s)):=hbx.cell 2 rfl;have HG1:=Hd hg1;have HC1:=Hd hc1;clear hrun1 hc1 hg1 ho1 hbx;go_enter Tryz.func19,Tryz.ntmps19
   go_wp2_with (at_builtin;(refine Zaj rfl _ _ 38 rfl _ _ v1 w1 rfl rfl HR1.out ?_))
   go_wp2
   go_ret2
   exact ⟨_,rfl,Src.nil,HW.out.trans (HG1.out.mono (Nat.le_refl _))⟩
 ·have h2:(op == [98,114,97,110,99,104])=false:=by rw [eq_of_beq h1];decide
  have h3:(op == [114,101,116,117,114,110])=false:=by rw [eq_of_beq h1];decide
  have h4:(op == [116,104,114,111,119])=false:=by rw [eq_of_beq h1];decide
  have HE:Hid (O=if inR m n=true then some [n] else none):=Hd (by have:=HO2.out;simpa [Zdp,ZiG,ZdS,Zes,Zf2,h1] using this);by_cases hq:n<0
  ·have hON:O=none:=by rw [HE.out];unfold inR;rw [decide_eq_false (by omega),Bool.false_and,if_neg (by decide)]
   subst hON;go_enter Tryz.func19,Tryz.ntmps19;go_wp2
   go_ret2
   exact ⟨_,rfl,Src.nil,Zaa (Zaa (Below.refl _ _) _) _⟩
  ·by_cases hq2:(m:Int)<=n
   ·have hON:O=none:=by rw [HE.out];unfold inR;rw [decide_eq_false (show ¬ n<(m:Int) by omega),Bool.and_false,if_neg (by decide)]
    subst hON;go_enter Tryz.func19,Tryz.ntmps19;go_wp2
    go_ret2
    exact ⟨_,rfl,Src.nil,Zaa (Zaa (Below.refl _ _) _) _⟩
   ·have hON:O=some [n]:=by rw [HE.out];unfold inR;rw [decide_eq_true (by omega),decide_eq_true (by omega)];rfl
    subst hON;have hW:Below w.heap.size w ((w.alloc (.cells #[] 3)).alloc (.cells #[.string (S op),.int .i64 n,.string (S s)] 48)):=Zaa (Zaa (Below.refl _ _) _) _;have hK:KI w.heap.size ((w.alloc (.cells #[] 3)).alloc (.cells #[.string (S op),.int .i64 n,.string (S s)] 48)) (.slice (some ⟨w.heap.size,0,none⟩) 0 0) []:=(KRF.empty num7 3 w.heap.size w (Nat.le_refl _)).below (Zaa (Below.refl _ _) _);have HAP1:=Hd (fun ty=>Zhp (B:=w.heap.size+1+1) (n) hK hW.size (by simp) (by simp) ty);have HW:=Hd hW;clear hW hK;go_enter Tryz.func19,Tryz.ntmps19
    go_wp2_with (at_builtin;(obtain ⟨v1,w1,hrun1,hc1,hg1⟩:=HAP1.out _;refine Zaj rfl _ _ 38 rfl _ _ v1 w1 rfl rfl hrun1 ?_))
    go_ret2
    exact ⟨_,rfl,Num7R.st.any (hc1.src ZdN),HW.out.trans (hg1.mono (Nat.le_refl _))⟩
theorem ZgN (l:List Ins) (at_:Int) (sv:Value) (w:World) (hs:Src 3 InsR Anyw w sv l) (hT:HT6 w) (hat:i64 at_) (hlen:l.length<=9223372036854775807) :
  Calls Tryz.prog 5 #[sv,.int .i64 at_] w (Said true w):=by
 have HA:Hid (∀ W,Below w.heap.size w W->Calls Tryz.prog 11 #[] W (Said true W)):=Hd (fun W hW=>ZjO W (hT.ft.keep hW) (hT.ct.keep hW));unfold Said at HA;obtain ⟨so,sc,rfl⟩:=hs.shape;obtain ⟨n,hn⟩:∃ n,n=l.length:=⟨_,rfl⟩
 have HN:=Hd hn;have HN1:Hid (n<=1000->Calls Tryz.prog 18 #[.slice so l.length sc,.int .i64 at_] w (Zh9 (ZeF l at_) w)):=Hd (fun h=>ZoI l at_ _ w hs (by omega) hat);have HN2:Hid (∀ W,n<=1000->Below w.heap.size w W->Calls Tryz.prog 19 #[.slice so l.length sc,.int .i64 at_] W (Zh9 (ZeF l at_) W)):=Hd (fun W h hW=>Znv l at_ _ W (InsR.st.below hs hW) (by omega) hat);rw [←hn] at HN1 HN2 hlen ⊢;generalize ZeF l at_=O at HN1 HN2;unfold Zh9 at HN1 HN2;unfold Said;clear hs hT hn;by_cases hbig:300<n
 ·have ib:300<(n:Int):=by omega
  clear hbig;go_enter Tryz.func5,Tryz.ntmps5
  go_wp2_with fail
  with_reducible refine (HA.out w (Below.refl _ _)).mono ?_
  rintro e w1 ⟨rfl,hb⟩;have HB:=Hd hb;clear hb;go_wp2;go_ret;exact ⟨rfl,HB.out⟩
 have ib:¬ (300<(n:Int)):=by omega
 have HN1':=Hd (HN1.out (by omega));have HN2':=Hd (fun W=>HN2.out W (by omega));clear hbig HN1 HN2;go_enter Tryz.func5,Tryz.ntmps5
 go_wp2_with fail
 with_reducible refine HN1'.out.mono ?_
 rintro e w1 ⟨v1,rfl,hs1,hb1⟩;obtain ⟨so1,sc1,rfl⟩:=hs1.shape;have S1:=Hd hs1;have B1:=Hd hb1;clear hs1 hb1
 go_wp2_with fail
 with_reducible refine (HN2'.out w1 B1.out).mono ?_
 rintro e w2 ⟨v2,rfl,hs2,hb2⟩;obtain ⟨so2,sc2,rfl⟩:=hs2.shape;have S2:=Hd hs2;have S12:=Hd (Num7R.st.below S1.out hb2);have B2:=Hd (B1.out.trans (hb2.mono B1.out.size));clear hs2 hb2
 go_wp2_with fail
 with_reducible refine (HA.out w2 B2.out).mono ?_
 rintro e w3 ⟨rfl,hb3⟩;have S23:=Hd (Num7R.st.below S2.out hb3);have S13:=Hd (Num7R.st.below S12.out hb3);have B3:=Hd (B2.out.trans (hb3.mono B2.out.size));clear hb3 S1 S2 S12;obtain ⟨L,hL⟩:∃ L,L=O.getD []:=⟨_,rfl⟩
 rw [←hL] at S23 S13 ⊢;clear hL;generalize O.isSome=ok;obtain ⟨q,hq⟩:∃ q,q=L.length:=⟨_,rfl⟩
 rw [←hq];have HQ:=Hd hq;clear hq
 go_wp2_with fail
 have HE1:=Hd (Src.elem S13.out);have HE2:=Hd (Src.elem S23.out);have hq2:q<=9223372036854775807:=by
  rcases S13.out with ⟨_,_,h,h2⟩|⟨_,_,c,h,⟨_,_,h3,h4⟩,_⟩
  ·rw [HQ.out,h2];decide
  ·rw [HQ.out];omega
 clear S13 S23
 go_loopw [9] (fun v9 wr=>∃ k:Nat,k<=q/\v9=.int .i64 k/\Below w3.heap.size w3 wr) (fun v9 _=>q - (intOf v9).toNat)
 case atStart=>exact ⟨0,Nat.zero_le _,rfl,Below.refl _ _⟩
 case round=>
  obtain ⟨k,hk,rfl,hbw⟩:=hrel;have HB:=Hd hbw;clear hbw;by_cases hlt:k<q
  ·obtain ⟨z,hz⟩:∃ z,L[k]? = some z:=⟨_,List.getElem?_eq_getElem (by rw [←HQ.out];exact hlt)⟩
   obtain ⟨b1,o1,u1,rfl,hu1,_,hc1⟩:=HE1.out k z hz;obtain ⟨b2,o2,u2,rfl,hu2,_,hc2⟩:=HE2.out k z hz;obtain rfl:=hu1;obtain rfl:=hu2;have hoW:=Only.ofBelow (S:=fun _=>False) HB.out;have d1:wr.cell? ⟨b1,o1+k,none⟩=some (.int .i64 z):=hoW.cell (a:=⟨b1,o1+k,none⟩) (by have p:=hc1 0 _ rfl;rw [Nat.mul_one] at p;exact p) id;have d2:wr.cell? ⟨b2,o2+k,none⟩=some (.int .i64 z):=hoW.cell (a:=⟨b2,o2+k,none⟩) (by have p:=hc2 0 _ rfl;rw [Nat.mul_one] at p;exact p) id;have hk0:(0:Int)<=(k:Int):=by omega
   have hkq:(k:Int)<(q:Int):=by omega
   clear hz hc1 hc2 hoW
   go_wp2_with (go_quiet (fail))
   go_roundw
   case rel=>exact ⟨k+1,by omega,by go_num,below_quiet HB.out _⟩
   case measure=>simp [intOf];omega
  ·obtain rfl:q=k:=by omega
   have HBE:=Hd (B3.out.trans (HB.out.mono B3.out.size));go_wp2;go_ret;exact ⟨rfl,HBE.out⟩
end Go.Proofs.YtggcdinoflchjaaGreatDoor
namespace Go.Proofs.YtggcdinoflchjaaGreatDoor
open Go.ChangeShapes Go.WideShapes Go.ChangeAt Go.RowKit Go.Lib Go.WideMaps Go.WideElems Go.Deep
theorem ZqS {H:Type} {enc:TypeId × Value->H} {w:World} {held:Bool} {v:Value} {d:DataW H} {p:List MemPlace} {base:Nat} (hv:Value.okWide Tryz.prog w .any base 37 v)
  (h:DataW.Trod enc Tryz.prog w 0 (fun _=>true) held 37 v d p):∃ l:List Ins,Src 3 InsR Anyw w v l/\l.length<=9223372036854775807:=by
 obtain ⟨ao,len,cap,rfl⟩:=okWide_slice Tryz.underlying37 hv;obtain ⟨fuel,hf⟩:=h;obtain ⟨u,l,hu,hs,hp,hn⟩:=Znd hf;have hc:(Value.slice ao len cap).cells.toList=[Value.slice ao len cap]:=rfl;rw [hc] at hu;simp only [List.cons.injEq,and_true] at hu;exact ⟨l,hu ▸ hs,hn⟩
end Go.Proofs.YtggcdinoflchjaaGreatDoor
namespace Go.Proofs.YtggcdinoflchjaaGreatDoor
open Go.RowKit
theorem Zo3 (sv:Value) (l:List Ins) (at_:Int) (w:World) (hT:HT6 w) (hs:Src 3 InsR Anyw w sv l) (hlen:l.length<=9223372036854775807) (h1:-9223372036854775808<=at_) (h2:at_<=9223372036854775807) :
  Calls Tryz.prog 5 #[sv,.int .i64 at_] w (Said true w):=
 ZgN l at_ sv w hs hT ⟨h1,h2⟩ hlen
