/- laws -/
import Derived.Test.YtggcdinoflchjaaGreatDoorK14
import Derived.LaidEqlPtr
set_option maxRecDepth 100000
set_option maxHeartbeats 16000000
namespace Go.Proofs.YtggcdinoflchjaaGreatDoor
open Go.RowKit
def topL (l:List UInt8):List UInt8:=if Zak l then Zbc l else l
theorem ZnL {l:List UInt8} (h:depN l=0):topL l=l:=by
 unfold topL;split
 ·rename_i hr
  rw [ZbD hr] at h;unfold Zbc;rw [h,Nat.mul_zero,Nat.sub_zero,List.take_length]
 ·rfl
theorem ZnK {l:List UInt8} (h:0<depN l):topL (ZcW l)=topL l/\depN (ZcW l)<depN l/\(ZcW l).length<=l.length:=by
 have hr:Zak l=true:=by
  cases hr:Zak l with
  | true=>rfl
  | false=>rw [Zdh hr] at h;cases h
 rw [ZbD hr] at h ⊢;obtain ⟨r1,r2,_⟩:=Zj4 hr h;have hle:=Zdg l;have he:ZcW l=l.take (l.length - 2):=by unfold ZcW;rw [if_pos ⟨hr,h⟩]
 refine ⟨?_,by rw [ZbD r1];omega,by rw [he,List.length_take];omega⟩;unfold topL;rw [if_pos r1,if_pos hr];unfold Zbc;rw [r2,he,List.take_take,List.length_take]
 congr 1
 omega
def ZbY (es:List Ent) (l:List UInt8):Bool:=ZaA (topL l) || (Zad es (topL l)).isSome
def Zpw (v:Value) (w:World) (e:Ending) (w':World):Prop:=e=.returned v/\Below w.heap.size w w'
theorem Zgh {A:Nat->Prop} {B:Nat->Nat} {T mb:Nat} {es:List Ent} {w0:World} (hT:Tab A w0 T mb B es) (l:List UInt8) (w:World) (hw:Below w0.heap.size w0 w) (hl:l.length<=9223372036854775807) :
  Calls Tryz.prog 41 #[.pointer (some ⟨T,0,none⟩),.string (S l)] w (Said (ZbY es l) w):=by
 have HW:=Hd hw;have HL:=Hd hl;have HT:=Hd hT;obtain ⟨R,hR⟩:∃ R,R=ZbY es l:=⟨_,rfl⟩
 rw [←hR];have HR:=Hd hR;clear hw hl hT hR;go_enter Tryz.func41,Tryz.ntmps41;go_wp2
 go_loopg [1] (depN l+1) (fun gk v1 wr=>∃ m:List UInt8,v1=.string (S m)/\topL m=topL l/\m.length<=l.length/\depN m<gk/\Below w.heap.size w wr)
 case atStart=>exact ⟨l,rfl,rfl,Nat.le_refl _,Nat.lt_succ_self _,Below.refl _ _⟩
 case round=>
  obtain ⟨m,rfl,htop,hml,hgk,hbw⟩:=hrel;have HTOP:=Hd htop;have HB:=Hd hbw;have HGK:=Hd hgk;have HML:=Hd hml;have HM:m.length<=9223372036854775807:=by have:=HL.out;omega
  have HD:=Hd (Zd2 m wr HM);unfold Zia at HD;clear htop hbw hgk hml;by_cases h0:depN m=0
  ·have hm:topL m=m:=ZnL h0;rw [h0] at HD;have HRM:Hid (R=(ZaA m || (Zad es m).isSome)):=Hd (by rw [HR.out];unfold ZbY;rw [←HTOP.out,hm]);clear h0 hm
   go_wp2_with fail
   refine HD.out.mono ?_;rintro e w1 ⟨rfl,hb1⟩;have HB1:=Hd (HB.out.trans (hb1.mono HB.out.size));clear hb1 HD;have HP:=Hd (Zfp m w1)
   go_wp2_with fail
   refine HP.out.mono ?_;rintro e w2 ⟨rfl,rfl⟩;clear HP;generalize ZaA m=p at HRM;cases p with
   | true=>
    obtain rfl:R=true:=by rw [HRM.out];rfl
    go_wp2;go_ret;exact ⟨rfl,HB1.out⟩
   | false=>
    have hw0:Below w0.heap.size w0 w1:=HW.out.trans (HB1.out.mono HW.out.size);have hTw:=HT.out.below hw0;have t0:=hTw.box.cell 0 rfl;have hlk:=hTw.look m HM;clear hw0 hTw;cases ho:Zad es m with
    | none=>
     rw [ho] at HRM hlk;obtain rfl:R=false:=by rw [HRM.out];rfl
     rw [Zef] at hlk;clear ho;go_wp2;go_ret;exact ⟨rfl,HB1.out⟩
    | some j=>
     rw [ho] at HRM hlk;obtain rfl:R=true:=by rw [HRM.out];rfl
     rw [ZbU] at hlk;clear ho;go_wp2;go_ret;exact ⟨rfl,HB1.out⟩
  ·have hp:0<depN m:=by omega
   obtain ⟨e1,e2,e3⟩:=ZnK hp;have hpd:(0:Int)<(depN m:Int):=by omega
   have HE:=Hd (fun w=>Zoi m w HM);unfold Zca at HE;have HT1:=Hd (e1.trans HTOP.out);have HT2:=Hd e2;have HT3:=Hd (Nat.le_trans e3 HML.out);clear hp e1 e2 e3 h0;generalize ZcW m=m2 at HE HT1 HT2 HT3
   go_wp2_with fail
   refine HD.out.mono ?_;rintro e w1 ⟨rfl,hb1⟩;have HB1:=Hd (HB.out.trans (hb1.mono HB.out.size));clear hb1 HD
   go_wp2_with fail
   refine (HE.out w1).mono ?_;rintro e w2 ⟨rfl,hb2⟩;have HB2:=Hd (HB1.out.trans (hb2.mono HB1.out.size));clear hb2 HE;go_wp2
   go_roundg (depN m)
   case measure=>exact HGK.out
   case rel=>exact ⟨m2,rfl,HT1.out,HT3.out,HT2.out,HB2.out⟩
def Zdl:List UInt8:=[110,117,108,108]
def ZeD (es:List Ent) (l:List UInt8):Bool:=l == Zdl || ZbY es l
theorem Zht {A:Nat->Prop} {B:Nat->Nat} {T mb:Nat} {es:List Ent} {w0:World} (hT:Tab A w0 T mb B es) (l:List UInt8) (w:World) (hw:Below w0.heap.size w0 w) (hl:l.length<=9223372036854775807) :
  Calls Tryz.prog 24 #[.pointer (some ⟨T,0,none⟩),.string (S l)] w (Said (ZeD es l) w):=by
 have HD:=Hd (Zgh hT l w hw hl);have hk:ZeD es l=(l == Zdl || ZbY es l):=rfl;rw [hk];clear hk hw hl hT;have e0:=Zae l;unfold Zdl;generalize ZbY es l=d at HD ⊢;cases hn:(l == [110,117,108,108])
 ·go_enter Tryz.func24,Tryz.ntmps24
  go_wp2_with fail
  refine HD.out.mono ?_;rintro e w1 ⟨rfl,hb⟩;clear HD;go_wp2;go_ret;exact ⟨rfl,hb⟩
 ·clear HD;go_enter Tryz.func24,Tryz.ntmps24;go_wp2;go_ret;exact ⟨rfl,Below.refl _ _⟩
def derE (es:List Ent) (l:List UInt8):Option Nat:=if 0<depN l/\ZbY es l=true then Zad es objL else Zad es l
theorem Zip {A:Nat->Prop} {B:Nat->Nat} {T mb:Nat} {es:List Ent} {w0:World} (hT:Tab A w0 T mb B es) (l:List UInt8) (w:World) (hw:Below w0.heap.size w0 w) (hl:l.length<=9223372036854775807) :
  Calls Tryz.prog 124 #[.pointer (some ⟨T,0,none⟩),.string (S l)] w (Zpw (ptrV B (derE es l)) w):=by
 have HD:=Hd (fun w' (hw':Below w0.heap.size w0 w')=>Zgh hT l w' hw' hl);have HP:=Hd (Zd2 l w hl);unfold Zia at HP;have HL:Hid (∀ w',Below w0.heap.size w0 w'->w'.cell? ⟨T,0,none⟩=some (.map (some mb))/\(Instr.lookup 79 (.map (some mb)) (.string (S l)) false).run Tryz.prog w'=.ok (ptrV B (Zad es l)) w'/\
   (Instr.lookup 79 (.map (some mb)) (.string ⟨#[79,98,106,101,99,116]⟩) false).run Tryz.prog w'=.ok (ptrV B (Zad es objL)) w'):=Hd (fun w' hw'=>
  ⟨(hT.below hw').box.cell 0 rfl,(hT.below hw').look l hl,(hT.below hw').look objL (by decide)⟩)
 have HW:=Hd hw;obtain ⟨v,hv⟩:∃ v,v=ptrV B (derE es l):=⟨_,rfl⟩
 rw [←hv];have HV:=Hd hv;clear hw hl hT hv;by_cases h0:0<depN l
 ·have hpd:(0:Int)<(depN l:Int):=by omega
  cases hd:ZbY es l
  ·have hE:derE es l=Zad es l:=by unfold derE;rw [if_neg (by rw [hd];simp)]
   rw [hE] at HV;have HDC:=Hd hd;clear h0 hE hd;go_enter Tryz.func124,Tryz.ntmps124
   go_wp2_with fail
   refine HP.out.mono ?_;rintro e w1 ⟨rfl,hb1⟩;have HB1:=Hd hb1;clear hb1 HP
   go_wp2_with fail
   refine (HD.out w1 (HW.out.trans (HB1.out.mono HW.out.size))).mono ?_;rintro e w2 ⟨rfl,hb2⟩;have HB2:=Hd (HB1.out.trans (hb2.mono HB1.out.size));clear hb2 HD;rw [HDC.out];obtain ⟨t0,t1,_⟩:=HL.out w2 (HW.out.trans (HB2.out.mono HW.out.size));rw [←HV.out] at t1;clear HL;go_wp2;go_ret;exact ⟨rfl,HB2.out⟩
  ·have hE:derE es l=Zad es objL:=by unfold derE;rw [if_pos ⟨h0,hd⟩]
   rw [hE] at HV;have HDC:=Hd hd;clear h0 hE hd;go_enter Tryz.func124,Tryz.ntmps124
   go_wp2_with fail
   refine HP.out.mono ?_;rintro e w1 ⟨rfl,hb1⟩;have HB1:=Hd hb1;clear hb1 HP
   go_wp2_with fail
   refine (HD.out w1 (HW.out.trans (HB1.out.mono HW.out.size))).mono ?_;rintro e w2 ⟨rfl,hb2⟩;have HB2:=Hd (HB1.out.trans (hb2.mono HB1.out.size));clear hb2 HD;rw [HDC.out];obtain ⟨t0,_,t1⟩:=HL.out w2 (HW.out.trans (HB2.out.mono HW.out.size));rw [←HV.out] at t1;clear HL;go_wp2;go_ret;exact ⟨rfl,HB2.out⟩
 ·have hE:derE es l=Zad es l:=by unfold derE;rw [if_neg (fun h=>h0 h.1)]
  rw [hE] at HV;have hz:depN l=0:=by omega
  rw [hz] at HP;clear h0 hE hz HD;go_enter Tryz.func124,Tryz.ntmps124
  go_wp2_with fail
  refine HP.out.mono ?_;rintro e w1 ⟨rfl,hb1⟩;have HB1:=Hd hb1;clear hb1 HP;obtain ⟨t0,t1,_⟩:=HL.out w1 (HW.out.trans (HB1.out.mono HW.out.size));rw [←HV.out] at t1;clear HL;go_wp2;go_ret;exact ⟨rfl,HB1.out⟩
def Zfa (es:List Ent):Nat->Option Nat->List Nat
 | 0,_=>[]
 | _+1,none=>[]
 | n+1,some i=>match es[i]? with
  | some e=>i :: Zfa es n e.up
  | none=>[]
def Zap (es:List Ent) (o:Option Nat):List Nat:=Zfa es es.length o
def ZaC (es:List Ent) (o:Option Nat):List Nat:=ZcL es es.length (Zap es o)
structure Shape (es:List Ent):Prop where
 len:es.length<=1048576
 lk:∀ (i:Nat) (e:Ent),es[i]? = some e->e.lk.length<=9223372036854775807
 fl:∀ (i:Nat) (e:Ent),es[i]? = some e->e.cls.flds.length<=32
 nm:∀ (i:Nat) (e:Ent),es[i]? = some e->e.cls.name.length<=32
 chain:∀ i,i<es.length->Zds es (Zap es (some i)) (some i)
 deep:∀ (i:Nat) (e:Ent),es[i]? = some e->Deep es es.length e.lk
def nmE (es:List Ent) (x:Nat):List UInt8:=match es[x]? with|some e=>e.cls.name|none=>[]
theorem ZhI {es:List Ent} {x:Nat} {e:Ent} (h:es[x]? = some e):nmE es x=e.cls.name:=by unfold nmE;rw [h]
theorem Shape.nmE_le {es:List Ent} (h:Shape es) (x:Nat):(nmE es x).length<=32:=by
 unfold nmE;cases hx:es[x]? with
 | none=>simp
 | some e=>exact h.nm x e hx
theorem Zbo {es:List Ent}:∀ {L:List Nat} {o:Option Nat},Zds es L o->∀ d ∈ L,∃ e,es[d]? = some e
 | [],_,_,d,hd=>by simp at hd
 | i :: l,_,⟨_,e,he,hc⟩,d,hd=>by
  rcases List.mem_cons.1 hd with h|h
  ·subst h;exact ⟨e,he⟩
  ·exact Zbo hc d h
theorem Za5 (es:List Ent):Zap es none=[]:=by
 unfold Zap;cases es.length <;> rfl
theorem Za4 {es:List Ent} {n:List UInt8} {i:Nat} (h:Zad es n=some i):i<es.length:=by
 unfold Zad at h;exact (List.findIdx?_eq_some_iff_getElem.1 h).1
theorem Shape.line {es:List Ent} (h:Shape es) (o:Option Nat) (ho:∀ i,o=some i->i<es.length):Zds es (Zap es o) o:=by
 cases o with
 | none=>rw [Za5];exact rfl
 | some i=>exact h.chain i (ho i rfl)
theorem Shape.mem {es:List Ent} (h:Shape es) {L:List Nat} {o:Option Nat} (hc:Zds es L o):∀ d ∈ L,∃ e,es[d]? = some e/\Deep es es.length e.lk:=fun d hd=>by
 obtain ⟨e,he⟩:=Zbo hc d hd;exact ⟨e,he,h.deep d e he⟩
theorem ZdZ {es:List Ent} (h:Shape es) {o:Option Nat} (ho:∀ i,o=some i->i<es.length):∀ x ∈ ZaC es o,x<es.length:=fun x hx=>by
 rcases List.mem_append.1 hx with h1|h1
 ·obtain ⟨e,he⟩:=Zbo (h.line o ho) x h1;exact (List.getElem?_eq_some_iff.1 he).1
 ·exact (Zhm (h.mem (h.line o ho))).2 x h1
theorem ZjI {A:Nat->Prop} {B:Nat->Nat} {T mb:Nat} {es:List Ent} {w0:World} (hT:Tab A w0 T mb B es) (hS:Shape es) (F:Nat) (caps:Array Value) (he:∀ args w,(callFunc F args).run Tryz.prog w=.ok (.enter F args) w)
  (o:Option Nat) (ho:∀ i,o=some i->i<es.length) (p:Nat->Bool) (w:World) (hw:Below w0.heap.size w0 w) (hF:∀ x w',x<es.length->Below w.heap.size w w'->Calls Tryz.prog F (#[entV B x]++caps) w' (Said (p x) w')) :
  Calls Tryz.prog 192 #[ptrV B o,.func (.func F) #[] caps] w (Said ((ZaC es o).any p) w):=by
 have hc:=hS.line o ho;refine (ZgV hT hS.len hS.lk F caps he w.heap.size es.length o (Zap es o) hc (hS.mem hc) (fun k w'=>Below w.heap.size w w'/\((ZaC es o).take k).any p=false) (fun _ w'=>Below w.heap.size w w'/\(ZaC es o).any p=true) w (Nat.le_refl _)
  (fun k w' h=>hw.trans (h.1.mono hw.size)) (fun k w1 w2 h ho=>⟨h.1.trans (Only.below ho h.1.size (fun i hi=>hi)),h.2⟩) (fun k x w' hx hj=>?_) ⟨Below.refl _ _,by simp⟩).mono fun e w' q=>?_
 ·have hx':(ZaC es o)[k]? = some x:=hx;refine (hF x w' (ZdZ hS ho x (List.mem_of_getElem? hx')) hj.1).mono fun e w'' ⟨h1,h2⟩=>?_
  have hb:=hj.1.trans (h2.mono hj.1.size);refine ⟨⟨p x,h1,fun hp=>⟨hb,List.any_eq_true.2 ⟨x,List.mem_of_getElem? hx',hp⟩⟩,fun hp=>⟨hb,?_⟩⟩,Only.ofBelow h2⟩;rw [Zah p _ k x hx',hj.2,hp];rfl
 ·obtain ⟨b,h1,h2,h3⟩:=q;cases b with
  | true=>
   obtain ⟨_,_,h4,h5⟩:=h2 rfl;exact ⟨by rw [h5];exact h1,h4⟩
  | false=>
   obtain ⟨h4,h5⟩:=h3 rfl;have h6:(ZaC es o).any p=false:=by
    have h7:((ZaC es o).take (ZaC es o).length).any p=false:=h5
    rwa [List.take_length] at h7
   exact ⟨by rw [h6];exact h1,h4⟩
theorem ZmM {A:Nat->Prop} {B:Nat->Nat} {T mb:Nat} {es:List Ent} {w0:World} (hT:Tab A w0 T mb B es) (F:Nat) (caps:Array Value) (he:∀ args w,(callFunc F args).run Tryz.prog w=.ok (.enter F args) w)
  (L:List Nat) (o:Option Nat) (hc:Zds es L o) (p:Nat->Bool) (w:World) (hw:Below w0.heap.size w0 w) (hF:∀ x w',x ∈ L->Below w.heap.size w w'->Calls Tryz.prog F (#[entV B x]++caps) w' (Said (p x) w')) :
  Calls Tryz.prog 125 #[ptrV B o,.func (.func F) #[] caps] w (Said (L.any p) w):=by
 refine (ZeI hT F caps L o (fun k w'=>Below w.heap.size w w'/\(L.take k).any p=false) (fun _ w'=>Below w.heap.size w w'/\L.any p=true) w he hc
  (fun k w' h=>hw.trans (h.1.mono hw.size)) ⟨Below.refl _ _,by simp⟩ (fun k x w' hx hj=>?_)).mono fun e w' q=>?_
 ·refine (hF x w' (List.mem_of_getElem? hx) hj.1).mono fun e w'' ⟨h1,h2⟩=>?_
  have hb:=hj.1.trans (h2.mono hj.1.size);refine ⟨p x,h1,fun hp=>⟨hb,List.any_eq_true.2 ⟨x,List.mem_of_getElem? hx,hp⟩⟩,fun hp=>⟨hb,?_⟩⟩;rw [Zah p _ k x hx,hj.2,hp];rfl
 ·obtain ⟨b,h1,h2,h3⟩:=q;cases b with
  | true=>
   obtain ⟨_,_,h4,h5⟩:=h2 rfl;exact ⟨by rw [h5];exact h1,h4⟩
  | false=>
   obtain ⟨h4,h5⟩:=h3 rfl;rw [List.take_length] at h5;exact ⟨by rw [h5];exact h1,h4⟩
theorem ZjD:(Tryz.prog.info? 97).map (·.size)=some 11:=by kernel_rfl
theorem Zok (a:Addr) (w:World):(binOp .eql 94 (.pointer (some a)) (.pointer (some a))).run Tryz.prog w=.ok (.bool true) w:=by
 obtain ⟨i,hi,_⟩:=Option.map_eq_some_iff.1 ZjD;exact run_eql_ptr_same w a Tryz.underlying94 hi
theorem Zl6 {w:World} {x y:Nat} {ca cb:Array Value} {ta tb:TypeId} (hne:x ≠ y) (hx:Box w x ca ta) (hy:Box w y cb tb):(binOp .eql 94 (.pointer (some ⟨x,0,none⟩)) (.pointer (some ⟨y,0,none⟩))).run Tryz.prog w=.ok (.bool false) w:=by
 obtain ⟨i,hi,hs⟩:=Option.map_eq_some_iff.1 ZjD;exact run_eql_ptr_other w Tryz.underlying94 hi (by omega) (fun e=>hne (by injection e)) hx hy
theorem Zo4 {A:Nat->Prop} {B:Nat->Nat} {T mb:Nat} {es:List Ent} {w:World} (hT:Tab A w T mb B es) (x:Nat) (o:Option Nat) (hx:x<es.length) (ho:∀ i,o=some i->i<es.length) (c:Nat) (hc:w.cell? ⟨c,0,none⟩=some (ptrV B o)) :
  Calls Tryz.prog 193 #[entV B x,.pointer (some ⟨c,0,none⟩)] w (Said (some x == o) w):=by
 cases o with
 | none=>
  have hc':w.cell? ⟨c,0,none⟩=some (.pointer none):=hc;clear hc ho hT hx;go_enter Tryz.func193,Tryz.ntmps193;go_wp2;go_ret;exact ⟨rfl,Below.refl _ _⟩
 | some j=>
  have hc':w.cell? ⟨c,0,none⟩=some (.pointer (some ⟨B j,0,none⟩)):=hc;by_cases e:x=j
  ·subst e;have hb:(some x == some x)=true:=by simp
   rw [hb];have hq:=Zok ⟨B x,0,none⟩ w;clear hc ho hT hx hb;go_enter Tryz.func193,Tryz.ntmps193;go_wp2;go_ret;exact ⟨rfl,Below.refl _ _⟩
  ·obtain ⟨_,_,_,_,h1,_⟩:=hT.ent x _ (List.getElem?_eq_getElem hx);obtain ⟨_,_,_,_,h2,_⟩:=hT.ent j _ (List.getElem?_eq_getElem (ho j rfl));have hq:=Zl6 (fun q=>e (hT.inj x j hx (ho j rfl) q)) h1 h2;have hb:(some x == some j)=false:=by simp [e]
   rw [hb];clear hc hb h1 h2 e;go_enter Tryz.func193,Tryz.ntmps193;go_wp2;go_ret;exact ⟨rfl,Below.refl _ _⟩
def subE (es:List Ent) (a b:List UInt8):Bool:=
 ZeD es a && (ZeD es b && (a == b || (if a == Zdl then !ZaA b else if 0<depN a then b == objL else (ZaC es (Zad es a)).any (fun x=>some x == Zad es b))))
theorem ZgO {A:Nat->Prop} {B:Nat->Nat} {T mb:Nat} {es:List Ent} {w0:World} (hT:Tab A w0 T mb B es) (hS:Shape es) (a b:List UInt8) (w:World) (hw:Below w0.heap.size w0 w) (ha:a.length<=9223372036854775807) (hb:b.length<=9223372036854775807) :
  Calls Tryz.prog 123 #[.pointer (some ⟨T,0,none⟩),.string (S a),.string (S b)] w (Said (subE es a b) w):=by
 have hmf:∀ (fn:Fn) (first cap:Array Value) (w:World),(Instr.makeFunc fn first cap).run Tryz.prog w=.ok (.func fn first cap) w:=fun _ _ _ _=>rfl
 have HK1:=Hd (Zht hT a w hw ha);have HK2:=Hd (fun w' hw'=>Zht hT b w' hw' hb);have HL:Hid (∀ w',Below w0.heap.size w0 w'->w'.cell? ⟨T,0,none⟩=some (.map (some mb))/\(Instr.lookup 79 (.map (some mb)) (.string (S a)) false).run Tryz.prog w'=.ok (ptrV B (Zad es a)) w'/\
   (Instr.lookup 79 (.map (some mb)) (.string (S b)) false).run Tryz.prog w'=.ok (ptrV B (Zad es b)) w'):=Hd (fun w' hw'=>
  ⟨(hT.below hw').box.cell 0 rfl,(hT.below hw').look a ha,(hT.below hw').look b hb⟩)
 have HA:Hid (∀ (w':World),Below w0.heap.size w0 w'->Calls Tryz.prog 192 #[ptrV B (Zad es a),.func (.func 193) #[] #[.pointer (some ⟨w'.heap.size,0,none⟩)]] (w'.alloc (.cells #[ptrV B (Zad es b)] 94))
   (Said ((ZaC es (Zad es a)).any (fun x=>some x == Zad es b)) (w'.alloc (.cells #[ptrV B (Zad es b)] 94)))):=Hd (fun w' hw'=>
  ZjI hT hS 193 _ (Zai Tryz.func193 (by kernel_rfl) rfl) _ (fun i hi=>Za4 hi) _ _ (Zaa hw' _) (fun x w'' hx hw''=>
   Zo4 (hT.below ((Zaa hw' _).trans (hw''.mono (Zaa hw' _).size))) x (Zad es b) hx (fun i hi=>Za4 hi) w'.heap.size (((Box.new w' #[ptrV B (Zad es b)] 94).below hw'').cell 0 rfl)))
 have HPL:=Hd (fun w=>Zfp b w);have HDP:=Hd (fun w=>Zd2 a w ha);unfold Zia at HDP;have HW:=Hd hw;obtain ⟨R,hR⟩:∃ R,R=subE es a b:=⟨_,rfl⟩
 rw [←hR];unfold subE at hR;generalize ZeD es a=ka at HK1 hR;generalize ZeD es b=kb at HK2 hR;have e0:=Zae a;have e1:=Zae b;have HR:=Hd hR;clear hR hw hT hS;cases ka with
 | false=>
  obtain rfl:R=false:=HR.out;clear HK2 HA HL HPL HDP HR;go_enter Tryz.func123,Tryz.ntmps123
  go_wp2_with fail
  refine HK1.out.mono ?_;rintro e w1 ⟨rfl,hb1⟩;clear HK1;go_wp2;go_ret;exact ⟨rfl,hb1⟩
 | true=>
  go_enter Tryz.func123,Tryz.ntmps123
  go_wp2_with fail
  refine HK1.out.mono ?_;rintro e w1 ⟨rfl,hb1⟩;have HB1:=Hd hb1;clear hb1 HK1
  go_wp2_with fail
  refine (HK2.out w1 (HW.out.trans (HB1.out.mono HW.out.size))).mono ?_;rintro e w2 ⟨rfl,hb2⟩;have HB2:=Hd (HB1.out.trans (hb2.mono HB1.out.size));clear hb2 HK2 HB1;cases kb with
  | false=>
   obtain rfl:R=false:=HR.out;clear HA HL HPL HDP HR;go_wp2;go_ret;exact ⟨rfl,HB2.out⟩
  | true=>
   have HR2:Hid (R=(a == b || (if a == Zdl then !ZaA b else if 0<depN a then b == objL else (ZaC es (Zad es a)).any (fun x=>some x == Zad es b)))):=Hd HR.out;clear HR;cases hab:(a == b) with
   | true=>
    obtain rfl:R=true:=by rw [HR2.out,hab];rfl
    clear HA HL HPL HDP HR2;go_wp2;go_ret;exact ⟨rfl,HB2.out⟩
   | false=>
    cases han:(a == [110,117,108,108]) with
    | true=>
     have hf:R = !ZaA b:=by rw [HR2.out,hab];unfold Zdl;rw [han];rfl
     have HF:=Hd hf;clear HA HL HDP HR2 hf;generalize ZaA b=p at HPL HF
     go_wp2_with fail
     refine (HPL.out _).mono ?_;rintro e w3 ⟨rfl,rfl⟩;clear HPL;cases p
     all_goals
      have hf:=HF.out;subst hf;go_wp2;go_ret;exact ⟨rfl,HB2.out⟩
    | false=>
     by_cases h0:0<depN a
     ·have hf:R=(b == objL):=by rw [HR2.out,hab];unfold Zdl;rw [han,Bool.false_or,if_neg (by decide),if_pos h0]
      have HF:=Hd hf;have hpd:(0:Int)<(depN a:Int):=by omega
      clear HA HL HPL HR2 hf h0
      go_wp2_with fail
      refine (HDP.out _).mono ?_;rintro e w3 ⟨rfl,hb3⟩;have HB3:=Hd (HB2.out.trans (hb3.mono HB2.out.size));clear hb3 HDP;cases hbo:(b == [79,98,106,101,99,116])
      all_goals
       have hf:R=_:=HF.out.trans hbo;subst hf;go_wp2;go_ret;exact ⟨rfl,HB3.out⟩
     ·have hf:R=(ZaC es (Zad es a)).any (fun x=>some x == Zad es b):=by rw [HR2.out,hab];unfold Zdl;rw [han,Bool.false_or,if_neg (by decide),if_neg h0]
      have hz:depN a=0:=by omega
      rw [hz] at HDP;rw [←hf] at HA;clear HPL HR2 hf h0 hz
      go_wp2_with fail
      refine (HDP.out _).mono ?_;rintro e w3 ⟨rfl,hb3⟩;have HB3:=Hd (HB2.out.trans (hb3.mono HB2.out.size));have HW3:=Hd (HW.out.trans (HB3.out.mono HW.out.size));clear hb3 HDP;obtain ⟨t0,t1,t2⟩:=HL.out w3 HW3.out;have hbn:=Zaa HW3.out (.cells #[ptrV B (Zad es b)] 94);obtain ⟨s0,s1,s2⟩:=HL.out _ hbn;clear s2;have HC:=Hd (HA.out w3 HW3.out);clear HL HA hbn;obtain ⟨va,hva⟩:=ZdF B (Zad es a);obtain ⟨vb,hvb⟩:=ZdF B (Zad es b);rw [hva] at t1 s1 HC;rw [hvb] at t2 s0 s1 HC;clear hva hvb
      go_wp2_with fail
      refine HC.out.mono ?_;rintro e w4 ⟨rfl,hb4⟩;have HB4:=Hd (HB3.out.trans (Below.mono (((Below.refl w3.heap.size w3).alloc (Nat.le_refl _) (.cells #[.pointer vb] 94)).trans (hb4.mono (by simp))) HB3.out.size));clear hb4 t0 t1 t2 s0 s1 HC;go_wp2;go_ret;exact ⟨rfl,HB4.out⟩
