/- laws -/
import Derived.Test.YtggcdinoflchjaaGreatDoorK14
import Derived.LaidEqlPtr
set_option maxRecDepth 100000
set_option maxHeartbeats 16000000
namespace Go.Proofs.YtggcdinoflchjaaGreatDoor
open Go.RowKit
def topL (l:List UInt8):List UInt8:=if Zaj l then Zbo l else l
theorem ZeE {l:List UInt8} (h:depN l=0):topL l=l:=by
 unfold topL;split
 ·rename_i hr
  rw [ZbQ hr] at h;unfold Zbo;rw [h,Nat.mul_zero,Nat.sub_zero,YaF]
 ·rfl
theorem Zok {l:List UInt8} (h:0<depN l):topL (Zdc l)=topL l/\depN (Zdc l)<depN l/\(Zdc l).length<=l.length:=by
 have hr:Zaj l=true:=by
  cases hr:Zaj l with
  | true=>rfl
  | false=>rw [Zcz hr] at h;cases h
 rw [ZbQ hr] at h ⊢;obtain ⟨r1,r2,_⟩:=Zky hr h;have hle:=Zdz l;have he:Zdc l=l.take (l.length - 2):=by unfold Zdc;rw [YaA ⟨hr,h⟩]
 refine ⟨?_,by rw [ZbQ r1];omega,by rw [he,Yaz];omega⟩;unfold topL;rw [YaA r1,YaA hr];unfold Zbo;rw [r2,he,YcA,Yaz]
 congr 1
 omega
def Zbs (es:List Ent) (l:List UInt8):Bool:=Zas (topL l) || (Zac es (topL l)).isSome
def Zp5 (v:Value) (w:World) (e:Ending) (w':World):Prop:=e=.returned v/\Below w.heap.size w w'
theorem ZgO {A:Nat->Prop} {B:Nat->Nat} {T mb:Nat} {es:List Ent} {w0:World} (hT:Tab A w0 T mb B es) (l:List UInt8) (w:World) (hw:Below w0.heap.size w0 w) (hl:l.length<=9223372036854775807) :
  Calls Tryz.prog 41 #[.pointer (some ⟨T,0,none⟩),.string (S l)] w (Said (Zbs es l) w):=by
 have HW:=Hd hw;have HL:=Hd hl;have HT:=Hd hT;obtain ⟨R,hR⟩:∃ R,R=Zbs es l:=⟨_,rfl⟩
 rw [←hR];have HR:=Hd hR;clear hw hl hT hR;go_enter Tryz.func41,Tryz.ntmps41;go_wp2
 go_loopg [1] (depN l+1) (fun gk v1 wr=>∃ m:List UInt8,v1=.string (S m)/\topL m=topL l/\m.length<=l.length/\depN m<gk/\Below w.heap.size w wr)
 case atStart=>exact ⟨l,rfl,rfl,Yac _,Nat.lt_succ_self _,Yab _ _⟩
 case round=>
  obtain ⟨m,rfl,htop,hml,hgk,hbw⟩:=hrel;have HTOP:=Hd htop;have HB:=Hd hbw;have HGK:=Hd hgk;have HML:=Hd hml;have HM:m.length<=9223372036854775807:=by have:=HL.o;omega
  have HD:=Hd (Zek m wr HM);unfold ZiE at HD;clear htop hbw hgk hml;by_cases h0:depN m=0
  ·have hm:topL m=m:=ZeE h0;rw [h0] at HD;have HRM:Hid (R=(Zas m || (Zac es m).isSome)):=Hd (by rw [HR.o];unfold Zbs;rw [←HTOP.o,hm]);clear h0 hm
   go_wp2_with fail
   refine HD.o.mono ?_;rintro e w1 ⟨rfl,hb1⟩;have HB1:=Hd (HB.o.trans (hb1.mono HB.o.size));clear hb1 HD;have HP:=Hd (ZfR m w1)
   go_wp2_with fail
   refine HP.o.mono ?_;rintro e w2 ⟨rfl,rfl⟩;clear HP;generalize Zas m=p at HRM;cases p with
   | true=>
    obtain rfl:R=true:=by rw [HRM.o];rfl
    go_wp2;go_ret;exact ⟨rfl,HB1.o⟩
   | false=>
    have hw0:Below w0.heap.size w0 w1:=HW.o.trans (HB1.o.mono HW.o.size);have hTw:=HT.o.below hw0;have t0:=hTw.box.cell 0 rfl;have hlk:=hTw.look m HM;clear hw0 hTw;cases ho:Zac es m with
    | none=>
     rw [ho] at HRM hlk;obtain rfl:R=false:=by rw [HRM.o];rfl
     rw [Zez] at hlk;clear ho;go_wp2;go_ret;exact ⟨rfl,HB1.o⟩
    | some j=>
     rw [ho] at HRM hlk;obtain rfl:R=true:=by rw [HRM.o];rfl
     rw [Zca] at hlk;clear ho;go_wp2;go_ret;exact ⟨rfl,HB1.o⟩
  ·have hp:0<depN m:=by omega
   obtain ⟨e1,e2,e3⟩:=Zok hp;have hpd:(0:Int)<(depN m:Int):=by omega
   have HE:=Hd (fun w=>ZoS m w HM);unfold ZbT at HE;have HT1:=Hd (e1.trans HTOP.o);have HT2:=Hd e2;have HT3:=Hd (Yan e3 HML.o);clear hp e1 e2 e3 h0;generalize Zdc m=m2 at HE HT1 HT2 HT3
   go_wp2_with fail
   refine HD.o.mono ?_;rintro e w1 ⟨rfl,hb1⟩;have HB1:=Hd (HB.o.trans (hb1.mono HB.o.size));clear hb1 HD
   go_wp2_with fail
   refine (HE.o w1).mono ?_;rintro e w2 ⟨rfl,hb2⟩;have HB2:=Hd (HB1.o.trans (hb2.mono HB1.o.size));clear hb2 HE;go_wp2
   go_roundg (depN m)
   case measure=>exact HGK.o
   case rel=>exact ⟨m2,rfl,HT1.o,HT3.o,HT2.o,HB2.o⟩
def Za1:List UInt8:=[110,117,108,108]
def ZaK (es:List Ent) (l:List UInt8):Bool:=l == Za1 || Zbs es l
theorem Zfx {A:Nat->Prop} {B:Nat->Nat} {T mb:Nat} {es:List Ent} {w0:World} (hT:Tab A w0 T mb B es) (l:List UInt8) (w:World) (hw:Below w0.heap.size w0 w) (hl:l.length<=9223372036854775807) :
  Calls Tryz.prog 24 #[.pointer (some ⟨T,0,none⟩),.string (S l)] w (Said (ZaK es l) w):=by
 have HD:=Hd (ZgO hT l w hw hl);have hk:ZaK es l=(l == Za1 || Zbs es l):=rfl;rw [hk];clear hk hw hl hT;have e0:=Zae l;unfold Za1;generalize Zbs es l=d at HD ⊢;cases hn:(l == [110,117,108,108])
 ·go_enter Tryz.func24,Tryz.ntmps24
  go_wp2_with fail
  refine HD.o.mono ?_;rintro e w1 ⟨rfl,hb⟩;clear HD;go_wp2;go_ret;exact ⟨rfl,hb⟩
 ·clear HD;go_enter Tryz.func24,Tryz.ntmps24;go_wp2;go_ret;exact ⟨rfl,Yab _ _⟩
def derE (es:List Ent) (l:List UInt8):Option Nat:=if 0<depN l/\Zbs es l=true then Zac es objL else Zac es l
theorem ZiS {A:Nat->Prop} {B:Nat->Nat} {T mb:Nat} {es:List Ent} {w0:World} (hT:Tab A w0 T mb B es) (l:List UInt8) (w:World) (hw:Below w0.heap.size w0 w) (hl:l.length<=9223372036854775807) :
  Calls Tryz.prog 124 #[.pointer (some ⟨T,0,none⟩),.string (S l)] w (Zp5 (ptrV B (derE es l)) w):=by
 have HD:=Hd (fun w' (hw':Below w0.heap.size w0 w')=>ZgO hT l w' hw' hl);have HP:=Hd (Zek l w hl);unfold ZiE at HP;have HL:Hid (∀ w',Below w0.heap.size w0 w'->w'.cell? ⟨T,0,none⟩=some (.map (some mb))/\(Instr.lookup 79 (.map (some mb)) (.string (S l)) false).run Tryz.prog w'=.ok (ptrV B (Zac es l)) w'/\
   (Instr.lookup 79 (.map (some mb)) (.string ⟨#[79,98,106,101,99,116]⟩) false).run Tryz.prog w'=.ok (ptrV B (Zac es objL)) w'):=Hd (fun w' hw'=>
  ⟨(hT.below hw').box.cell 0 rfl,(hT.below hw').look l hl,(hT.below hw').look objL (by decide)⟩)
 have HW:=Hd hw;obtain ⟨v,hv⟩:∃ v,v=ptrV B (derE es l):=⟨_,rfl⟩
 rw [←hv];have HV:=Hd hv;clear hw hl hT hv;by_cases h0:0<depN l
 ·have hpd:(0:Int)<(depN l:Int):=by omega
  cases hd:Zbs es l
  ·have hE:derE es l=Zac es l:=by unfold derE;rw [Yaq (by rw [hd];simp)]
   rw [hE] at HV;have HDC:=Hd hd;clear h0 hE hd;go_enter Tryz.func124,Tryz.ntmps124
   go_wp2_with fail
   refine HP.o.mono ?_;rintro e w1 ⟨rfl,hb1⟩;have HB1:=Hd hb1;clear hb1 HP
   go_wp2_with fail
   refine (HD.o w1 (HW.o.trans (HB1.o.mono HW.o.size))).mono ?_;rintro e w2 ⟨rfl,hb2⟩;have HB2:=Hd (HB1.o.trans (hb2.mono HB1.o.size));clear hb2 HD;rw [HDC.o];obtain ⟨t0,t1,_⟩:=HL.o w2 (HW.o.trans (HB2.o.mono HW.o.size));rw [←HV.o] at t1;clear HL;go_wp2;go_ret;exact ⟨rfl,HB2.o⟩
  ·have hE:derE es l=Zac es objL:=by unfold derE;rw [YaA ⟨h0,hd⟩]
   rw [hE] at HV;have HDC:=Hd hd;clear h0 hE hd;go_enter Tryz.func124,Tryz.ntmps124
   go_wp2_with fail
   refine HP.o.mono ?_;rintro e w1 ⟨rfl,hb1⟩;have HB1:=Hd hb1;clear hb1 HP
   go_wp2_with fail
   refine (HD.o w1 (HW.o.trans (HB1.o.mono HW.o.size))).mono ?_;rintro e w2 ⟨rfl,hb2⟩;have HB2:=Hd (HB1.o.trans (hb2.mono HB1.o.size));clear hb2 HD;rw [HDC.o];obtain ⟨t0,_,t1⟩:=HL.o w2 (HW.o.trans (HB2.o.mono HW.o.size));rw [←HV.o] at t1;clear HL;go_wp2;go_ret;exact ⟨rfl,HB2.o⟩
 ·have hE:derE es l=Zac es l:=by unfold derE;rw [Yaq (fun h=>h0 h.1)]
  rw [hE] at HV;have hz:depN l=0:=by omega
  rw [hz] at HP;clear h0 hE hz HD;go_enter Tryz.func124,Tryz.ntmps124
  go_wp2_with fail
  refine HP.o.mono ?_;rintro e w1 ⟨rfl,hb1⟩;have HB1:=Hd hb1;clear hb1 HP;obtain ⟨t0,t1,_⟩:=HL.o w1 (HW.o.trans (HB1.o.mono HW.o.size));rw [←HV.o] at t1;clear HL;go_wp2;go_ret;exact ⟨rfl,HB1.o⟩
def ZfC (es:List Ent):Nat->Option Nat->List Nat
 | 0,_=>[]
 | _+1,none=>[]
 | n+1,some i=>match es[i]? with
  | some e=>i :: ZfC es n e.up
  | none=>[]
def Zal (es:List Ent) (o:Option Nat):List Nat:=ZfC es es.length o
def ZaE (es:List Ent) (o:Option Nat):List Nat:=Zc2 es es.length (Zal es o)
structure Shape (es:List Ent):Prop where
 len:es.length<=1048576
 lk:∀ (i:Nat) (e:Ent),es[i]? = some e->e.lk.length<=9223372036854775807
 fl:∀ (i:Nat) (e:Ent),es[i]? = some e->e.cls.flds.length<=32
 nm:∀ (i:Nat) (e:Ent),es[i]? = some e->e.cls.name.length<=32
 chain:∀ i,i<es.length->ZdK es (Zal es (some i)) (some i)
 deep:∀ (i:Nat) (e:Ent),es[i]? = some e->Deep es es.length e.lk
def nmE (es:List Ent) (x:Nat):List UInt8:=match es[x]? with|some e=>e.cls.name|none=>[]
theorem Ze2 {es:List Ent} {x:Nat} {e:Ent} (h:es[x]? = some e):nmE es x=e.cls.name:=by unfold nmE;rw [h]
theorem Shape.nmE_le {es:List Ent} (h:Shape es) (x:Nat):(nmE es x).length<=32:=by
 unfold nmE;cases hx:es[x]? with
 | none=>simp
 | some e=>exact h.nm x e hx
theorem Zbg {es:List Ent}:∀ {L:List Nat} {o:Option Nat},ZdK es L o->∀ d ∈ L,∃ e,es[d]? = some e
 | [],_,_,d,hd=>by simp at hd
 | i :: l,_,⟨_,e,he,hc⟩,d,hd=>by
  rcases Yau.1 hd with h|h
  ·subst h;exact ⟨e,he⟩
  ·exact Zbg hc d h
theorem ZaC (es:List Ent):Zal es none=[]:=by
 unfold Zal;cases es.length <;> rfl
theorem ZaU {es:List Ent} {n:List UInt8} {i:Nat} (h:Zac es n=some i):i<es.length:=by
 unfold Zac at h;exact (YaX.1 h).1
theorem Shape.line {es:List Ent} (h:Shape es) (o:Option Nat) (ho:∀ i,o=some i->i<es.length):ZdK es (Zal es o) o:=by
 cases o with
 | none=>rw [ZaC];exact rfl
 | some i=>exact h.chain i (ho i rfl)
theorem Shape.mem {es:List Ent} (h:Shape es) {L:List Nat} {o:Option Nat} (hc:ZdK es L o):∀ d ∈ L,∃ e,es[d]? = some e/\Deep es es.length e.lk:=fun d hd=>by
 obtain ⟨e,he⟩:=Zbg hc d hd;exact ⟨e,he,h.deep d e he⟩
theorem Zeh {es:List Ent} (h:Shape es) {o:Option Nat} (ho:∀ i,o=some i->i<es.length):∀ x ∈ ZaE es o,x<es.length:=fun x hx=>by
 rcases Yap.1 hx with h1|h1
 ·obtain ⟨e,he⟩:=Zbg (h.line o ho) x h1;exact (Yag.1 he).1
 ·exact (ZhS (h.mem (h.line o ho))).2 x h1
theorem Zkb {A:Nat->Prop} {B:Nat->Nat} {T mb:Nat} {es:List Ent} {w0:World} (hT:Tab A w0 T mb B es) (hS:Shape es) (F:Nat) (caps:Array Value) (he:∀ args w,(callFunc F args).run Tryz.prog w=.ok (.enter F args) w)
  (o:Option Nat) (ho:∀ i,o=some i->i<es.length) (p:Nat->Bool) (w:World) (hw:Below w0.heap.size w0 w) (hF:∀ x w',x<es.length->Below w.heap.size w w'->Calls Tryz.prog F (#[entV B x]++caps) w' (Said (p x) w')) :
  Calls Tryz.prog 192 #[ptrV B o,.func (.func F) #[] caps] w (Said ((ZaE es o).any p) w):=by
 have hc:=hS.line o ho;refine (Zhs hT hS.len hS.lk F caps he w.heap.size es.length o (Zal es o) hc (hS.mem hc) (fun k w'=>Below w.heap.size w w'/\((ZaE es o).take k).any p=false) (fun _ w'=>Below w.heap.size w w'/\(ZaE es o).any p=true) w (Yac _)
  (fun k w' h=>hw.trans (h.1.mono hw.size)) (fun k w1 w2 h ho=>⟨h.1.trans (Only.below ho h.1.size (fun i hi=>hi)),h.2⟩) (fun k x w' hx hj=>?_) ⟨Yab _ _,by simp⟩).mono fun e w' q=>?_
 ·have hx':(ZaE es o)[k]? = some x:=hx;refine (hF x w' (Zeh hS ho x (Yad hx')) hj.1).mono fun e w'' ⟨h1,h2⟩=>?_
  have hb:=hj.1.trans (h2.mono hj.1.size);refine ⟨⟨p x,h1,fun hp=>⟨hb,YaN.2 ⟨x,Yad hx',hp⟩⟩,fun hp=>⟨hb,?_⟩⟩,Yaf h2⟩;rw [Zai p _ k x hx',hj.2,hp];rfl
 ·obtain ⟨b,h1,h2,h3⟩:=q;cases b with
  | true=>
   obtain ⟨_,_,h4,h5⟩:=h2 rfl;exact ⟨by rw [h5];exact h1,h4⟩
  | false=>
   obtain ⟨h4,h5⟩:=h3 rfl;have h6:(ZaE es o).any p=false:=by
    have h7:((ZaE es o).take (ZaE es o).length).any p=false:=h5
    rwa [YaF] at h7
   exact ⟨by rw [h6];exact h1,h4⟩
theorem Znl {A:Nat->Prop} {B:Nat->Nat} {T mb:Nat} {es:List Ent} {w0:World} (hT:Tab A w0 T mb B es) (F:Nat) (caps:Array Value) (he:∀ args w,(callFunc F args).run Tryz.prog w=.ok (.enter F args) w)
  (L:List Nat) (o:Option Nat) (hc:ZdK es L o) (p:Nat->Bool) (w:World) (hw:Below w0.heap.size w0 w) (hF:∀ x w',x ∈ L->Below w.heap.size w w'->Calls Tryz.prog F (#[entV B x]++caps) w' (Said (p x) w')) :
  Calls Tryz.prog 125 #[ptrV B o,.func (.func F) #[] caps] w (Said (L.any p) w):=by
 refine (Zfa hT F caps L o (fun k w'=>Below w.heap.size w w'/\(L.take k).any p=false) (fun _ w'=>Below w.heap.size w w'/\L.any p=true) w he hc
  (fun k w' h=>hw.trans (h.1.mono hw.size)) ⟨Yab _ _,by simp⟩ (fun k x w' hx hj=>?_)).mono fun e w' q=>?_
 ·refine (hF x w' (Yad hx) hj.1).mono fun e w'' ⟨h1,h2⟩=>?_
  have hb:=hj.1.trans (h2.mono hj.1.size);refine ⟨p x,h1,fun hp=>⟨hb,YaN.2 ⟨x,Yad hx,hp⟩⟩,fun hp=>⟨hb,?_⟩⟩;rw [Zai p _ k x hx,hj.2,hp];rfl
 ·obtain ⟨b,h1,h2,h3⟩:=q;cases b with
  | true=>
   obtain ⟨_,_,h4,h5⟩:=h2 rfl;exact ⟨by rw [h5];exact h1,h4⟩
  | false=>
   obtain ⟨h4,h5⟩:=h3 rfl;rw [YaF] at h5;exact ⟨by rw [h5];exact h1,h4⟩
theorem Zj6:(Tryz.prog.info? 97).map (·.size)=some 11:=by kernel_rfl
theorem ZoU (a:Addr) (w:World):(binOp .eql 94 (.pointer (some a)) (.pointer (some a))).run Tryz.prog w=.ok (.bool true) w:=by
 obtain ⟨i,hi,_⟩:=YaW.1 Zj6;exact run_eql_ptr_same w a Tryz.underlying94 hi
theorem ZmE {w:World} {x y:Nat} {ca cb:Array Value} {ta tb:TypeId} (hne:x ≠ y) (hx:Box w x ca ta) (hy:Box w y cb tb):(binOp .eql 94 (.pointer (some ⟨x,0,none⟩)) (.pointer (some ⟨y,0,none⟩))).run Tryz.prog w=.ok (.bool false) w:=by
 obtain ⟨i,hi,hs⟩:=YaW.1 Zj6;exact run_eql_ptr_other w Tryz.underlying94 hi (by omega) (fun e=>hne (by injection e)) hx hy
theorem ZpE {A:Nat->Prop} {B:Nat->Nat} {T mb:Nat} {es:List Ent} {w:World} (hT:Tab A w T mb B es) (x:Nat) (o:Option Nat) (hx:x<es.length) (ho:∀ i,o=some i->i<es.length) (c:Nat) (hc:w.cell? ⟨c,0,none⟩=some (ptrV B o)) :
  Calls Tryz.prog 193 #[entV B x,.pointer (some ⟨c,0,none⟩)] w (Said (some x == o) w):=by
 cases o with
 | none=>
  have hc':w.cell? ⟨c,0,none⟩=some (.pointer none):=hc;clear hc ho hT hx;go_enter Tryz.func193,Tryz.ntmps193;go_wp2;go_ret;exact ⟨rfl,Yab _ _⟩
 | some j=>
  have hc':w.cell? ⟨c,0,none⟩=some (.pointer (some ⟨B j,0,none⟩)):=hc;by_cases e:x=j
  ·subst e;have hb:(some x == some x)=true:=by simp
   rw [hb];have hq:=ZoU ⟨B x,0,none⟩ w;clear hc ho hT hx hb;go_enter Tryz.func193,Tryz.ntmps193;go_wp2;go_ret;exact ⟨rfl,Yab _ _⟩
  ·obtain ⟨_,_,_,_,h1,_⟩:=hT.ent x _ (Yaa hx);obtain ⟨_,_,_,_,h2,_⟩:=hT.ent j _ (Yaa (ho j rfl));have hq:=ZmE (fun q=>e (hT.inj x j hx (ho j rfl) q)) h1 h2;have hb:(some x == some j)=false:=by simp [e]
   rw [hb];clear hc hb h1 h2 e;go_enter Tryz.func193,Tryz.ntmps193;go_wp2;go_ret;exact ⟨rfl,Yab _ _⟩
def subE (es:List Ent) (a b:List UInt8):Bool:=
 ZaK es a && (ZaK es b && (a == b || (if a == Za1 then !Zas b else if 0<depN a then b == objL else (ZaE es (Zac es a)).any (fun x=>some x == Zac es b))))
theorem Zhm {A:Nat->Prop} {B:Nat->Nat} {T mb:Nat} {es:List Ent} {w0:World} (hT:Tab A w0 T mb B es) (hS:Shape es) (a b:List UInt8) (w:World) (hw:Below w0.heap.size w0 w) (ha:a.length<=9223372036854775807) (hb:b.length<=9223372036854775807) :
  Calls Tryz.prog 123 #[.pointer (some ⟨T,0,none⟩),.string (S a),.string (S b)] w (Said (subE es a b) w):=by
 have hmf:∀ (fn:Fn) (first cap:Array Value) (w:World),(Instr.makeFunc fn first cap).run Tryz.prog w=.ok (.func fn first cap) w:=fun _ _ _ _=>rfl
 have HK1:=Hd (Zfx hT a w hw ha);have HK2:=Hd (fun w' hw'=>Zfx hT b w' hw' hb);have HL:Hid (∀ w',Below w0.heap.size w0 w'->w'.cell? ⟨T,0,none⟩=some (.map (some mb))/\(Instr.lookup 79 (.map (some mb)) (.string (S a)) false).run Tryz.prog w'=.ok (ptrV B (Zac es a)) w'/\
   (Instr.lookup 79 (.map (some mb)) (.string (S b)) false).run Tryz.prog w'=.ok (ptrV B (Zac es b)) w'):=Hd (fun w' hw'=>
  ⟨(hT.below hw').box.cell 0 rfl,(hT.below hw').look a ha,(hT.below hw').look b hb⟩)
 have HA:Hid (∀ (w':World),Below w0.heap.size w0 w'->Calls Tryz.prog 192 #[ptrV B (Zac es a),.func (.func 193) #[] #[.pointer (some ⟨w'.heap.size,0,none⟩)]] (w'.alloc (.cells #[ptrV B (Zac es b)] 94))
   (Said ((ZaE es (Zac es a)).any (fun x=>some x == Zac es b)) (w'.alloc (.cells #[ptrV B (Zac es b)] 94)))):=Hd (fun w' hw'=>
  Zkb hT hS 193 _ (Zah Tryz.func193 (by kernel_rfl) rfl) _ (fun i hi=>ZaU hi) _ _ (Zaa hw' _) (fun x w'' hx hw''=>
   ZpE (hT.below ((Zaa hw' _).trans (hw''.mono (Zaa hw' _).size))) x (Zac es b) hx (fun i hi=>ZaU hi) w'.heap.size (((Box.new w' #[ptrV B (Zac es b)] 94).below hw'').cell 0 rfl)))
 have HPL:=Hd (fun w=>ZfR b w);have HDP:=Hd (fun w=>Zek a w ha);unfold ZiE at HDP;have HW:=Hd hw;obtain ⟨R,hR⟩:∃ R,R=subE es a b:=⟨_,rfl⟩
 rw [←hR];unfold subE at hR;generalize ZaK es a=ka at HK1 hR;generalize ZaK es b=kb at HK2 hR;have e0:=Zae a;have e1:=Zae b;have HR:=Hd hR;clear hR hw hT hS;cases ka with
 | false=>
  obtain rfl:R=false:=HR.o;clear HK2 HA HL HPL HDP HR;go_enter Tryz.func123,Tryz.ntmps123
  go_wp2_with fail
  refine HK1.o.mono ?_;rintro e w1 ⟨rfl,hb1⟩;clear HK1;go_wp2;go_ret;exact ⟨rfl,hb1⟩
 | true=>
  go_enter Tryz.func123,Tryz.ntmps123
  go_wp2_with fail
  refine HK1.o.mono ?_;rintro e w1 ⟨rfl,hb1⟩;have HB1:=Hd hb1;clear hb1 HK1
  go_wp2_with fail
  refine (HK2.o w1 (HW.o.trans (HB1.o.mono HW.o.size))).mono ?_;rintro e w2 ⟨rfl,hb2⟩;have HB2:=Hd (HB1.o.trans (hb2.mono HB1.o.size));clear hb2 HK2 HB1;cases kb with
  | false=>
   obtain rfl:R=false:=HR.o;clear HA HL HPL HDP HR;go_wp2;go_ret;exact ⟨rfl,HB2.o⟩
  | true=>
   have HR2:Hid (R=(a == b || (if a == Za1 then !Zas b else if 0<depN a then b == objL else (ZaE es (Zac es a)).any (fun x=>some x == Zac es b)))):=Hd HR.o;clear HR;cases hab:(a == b) with
   | true=>
    obtain rfl:R=true:=by rw [HR2.o,hab];rfl
    clear HA HL HPL HDP HR2;go_wp2;go_ret;exact ⟨rfl,HB2.o⟩
   | false=>
    cases han:(a == [110,117,108,108]) with
    | true=>
     have hf:R = !Zas b:=by rw [HR2.o,hab];unfold Za1;rw [han];rfl
     have HF:=Hd hf;clear HA HL HDP HR2 hf;generalize Zas b=p at HPL HF
     go_wp2_with fail
     refine (HPL.o _).mono ?_;rintro e w3 ⟨rfl,rfl⟩;clear HPL;cases p
     all_goals
      have hf:=HF.o;subst hf;go_wp2;go_ret;exact ⟨rfl,HB2.o⟩
    | false=>
     by_cases h0:0<depN a
     ·have hf:R=(b == objL):=by rw [HR2.o,hab];unfold Za1;rw [han,YaR,Yaq (by decide),YaA h0]
      have HF:=Hd hf;have hpd:(0:Int)<(depN a:Int):=by omega
      clear HA HL HPL HR2 hf h0
      go_wp2_with fail
      refine (HDP.o _).mono ?_;rintro e w3 ⟨rfl,hb3⟩;have HB3:=Hd (HB2.o.trans (hb3.mono HB2.o.size));clear hb3 HDP;cases hbo:(b == [79,98,106,101,99,116])
      all_goals
       have hf:R=_:=HF.o.trans hbo;subst hf;go_wp2;go_ret;exact ⟨rfl,HB3.o⟩
     ·have hf:R=(ZaE es (Zac es a)).any (fun x=>some x == Zac es b):=by rw [HR2.o,hab];unfold Za1;rw [han,YaR,Yaq (by decide),Yaq h0]
      have hz:depN a=0:=by omega
      rw [hz] at HDP;rw [←hf] at HA;clear HPL HR2 hf h0 hz
      go_wp2_with fail
      refine (HDP.o _).mono ?_;rintro e w3 ⟨rfl,hb3⟩;have HB3:=Hd (HB2.o.trans (hb3.mono HB2.o.size));have HW3:=Hd (HW.o.trans (HB3.o.mono HW.o.size));clear hb3 HDP;obtain ⟨t0,t1,t2⟩:=HL.o w3 HW3.o;have hbn:=Zaa HW3.o (.cells #[ptrV B (Zac es b)] 94);obtain ⟨s0,s1,s2⟩:=HL.o _ hbn;clear s2;have HC:=Hd (HA.o w3 HW3.o);clear HL HA hbn;obtain ⟨va,hva⟩:=ZdY B (Zac es a);obtain ⟨vb,hvb⟩:=ZdY B (Zac es b);rw [hva] at t1 s1 HC;rw [hvb] at t2 s0 s1 HC;clear hva hvb
      go_wp2_with fail
      refine HC.o.mono ?_;rintro e w4 ⟨rfl,hb4⟩;have HB4:=Hd (HB3.o.trans (YbP (((Yab w3.heap.size w3).alloc (Yac _) (.cells #[.pointer vb] 94)).trans (hb4.mono (by simp))) HB3.o.size));clear hb4 t0 t1 t2 s0 s1 HC;go_wp2;go_ret;exact ⟨rfl,HB4.o⟩
