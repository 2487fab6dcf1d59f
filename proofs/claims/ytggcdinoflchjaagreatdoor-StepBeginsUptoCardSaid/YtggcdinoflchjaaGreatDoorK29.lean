/- laws -/
import Derived.Test.YtggcdinoflchjaaGreatDoorK28
set_option maxRecDepth 100000
set_option maxHeartbeats 16000000
namespace Go.Proofs.YtggcdinoflchjaaGreatDoor
open Go.RowKit
def upAt (es:List Ent) (x:Nat):Option Nat:=match es[x]? with|some e=>e.up|none=>none
def Zcl (es:List Ent) (x:Nat):Bool:=match es[x]? with|some e=>e.cls.abs|none=>false
theorem Zci {es:List Ent} {x:Nat} {e:Ent} (h:es[x]? = some e):upAt es x=e.up:=by unfold upAt;rw [h]
theorem Zgc {es:List Ent} {x:Nat} {e:Ent} (h:es[x]? = some e):Zcl es x=e.cls.abs:=by unfold Zcl;rw [h]
theorem Zcg {es:List Ent} {x:Nat} {e:Ent} (h:es[x]? = some e):Zar es x=e.cls.mths:=by unfold Zar;rw [h]
theorem ZeS {es:List Ent}:∀ {L M:List Nat} {o:Option Nat},Zdw es L o->Zdw es M o->L=M
 | [],[],_,_,_=>rfl
 | [],j :: m,_,h,⟨k,_⟩=>by rw [show _=none from h] at k;cases k
 | i :: l,[],_,⟨h,_⟩,k=>by rw [show _=none from k] at h;cases h
 | i :: l,j :: m,_,⟨h1,e,h2,h3⟩,⟨k1,e',k2,k3⟩=>by
  obtain rfl:=Yae (h1.symm.trans k1);obtain rfl:=Yae (h2.symm.trans k2);rw [ZeS h3 k3]
theorem ZfV {es:List Ent} (hS:Shape es) (hu:∀ (i:Nat) (e:Ent) (j:Nat),es[i]? = some e->e.up=some j->j<es.length) {x:Nat} {e:Ent} (he:es[x]? = some e):Zap es (some x)=x :: Zap es e.up:=
 ZeS (hS.line (some x) (fun i h=>by obtain rfl:=Yae h;exact (Yag.1 he).1)) ⟨rfl,e,he,hS.line e.up (fun j hj=>hu x e j he hj)⟩
def absM (es:List Ent) (x:Nat) (n:List UInt8):Bool:=match ZbI es (some x) n with|some r=>r.2.abs|none=>false
def ZbT (es:List Ent) (x y:Nat):Bool:=(Zar es y).any fun m=>absM es x m.name
def Zb0 (es:List Ent) (x:Nat):Bool:=!Zcl es x && ((Zau es x).any (ZbT es x) || ((Zap es (upAt es x)).takeWhile (Zcl es)).any fun d=>(Zau es d).any (ZbT es x))
theorem ZmK {A A':Nat->Prop} {B:Nat->Nat} {T mb:Nat} {es:List Ent} {w0:World} (hT:Tab A w0 T mb B es) (hS:Shape es) (hml:∀ i,(Zar es i).length<=9223372036854775807) (x:Nat) (hx:x<es.length) (m:Mth) (v:Value) (c:Nat) (w:World) (hw:Below w0.heap.size w0 w)
  (hv:MthR A' w m v) (h:w.cell? ⟨c,0,none⟩=some (entV B x)) (hr:(ZbI es (some x) m.name).isSome=true) :
  Calls Tryz.prog 184 #[v,.pointer (some ⟨c,0,none⟩)] w (Said (absM es x m.name) w):=by
 obtain ⟨⟨i,r⟩,hr⟩:=YaM.1 hr;obtain ⟨_,_,_,rfl,⟨po,pc,rfl⟩,⟨co,cc,rfl⟩,⟨ko,kc,rfl⟩⟩:=Zam hv;have HM:Hid (∀ W,Below w.heap.size w W->Calls Tryz.prog 185 #[entV B x,.string (S m.name)] W (Zpu A B w0 (some (i,r)) W)):=Hd (fun W hW=>by
  have q:=Zju hT hS hml (some x) (fun i hi=>by obtain rfl:=Yae hi;exact hx) m.name W (hw.trans (hW.mono hw.size));rw [hr] at q;exact q)
 have hcA:∀ o:Obj,(w.alloc o).cell? ⟨c,0,none⟩=some (entV B x):=fun o=>((Yan (fun _=>False) w).alloc o).cell h id
 have ha:absM es x m.name=r.abs:=by unfold absM;rw [hr]
 have HW:=Hd hw;rw [ha];clear hT hS hml hw hv h hr ha;go_enter Tryz.func184,Tryz.ntmps184
 go_wp2_with fail
 refine (HM.o _ ((Yab _ w).alloc (Yac _) _)).mono ?_;rintro e w1 ⟨po1,pm1,rfl,hP,hb1⟩;obtain ⟨_,hpm⟩:=hP;obtain ⟨b,o,v,hpm,hmv,_,hbl,hcl⟩:=hpm;obtain rfl:=Value.pointer.inj hpm;obtain ⟨_,_,_,rfl,_,_,_⟩:=Zam hmv;have HBW:=Hd (((Yab _ w).alloc (Yac _) (.cells #[.string (S m.name),.slice po m.params.length pc,.string (S m.res),.bool m.abs,.int .i64 m.loc,.slice co m.code.length cc,.slice ko m.cats.length kc] 44)).trans (hb1.mono (by simp)));have c3:w1.cell? ⟨b,o+3,none⟩=some (.bool r.abs):=(Yad (S:=fun _=>False) (HW.o.trans (HBW.o.mono HW.o.size))).cell (hcl 3 _ rfl) id;clear hcl hb1 hcA HM hmv;go_wp2;go_ret;exact ⟨rfl,HBW.o⟩
theorem ZmJ {A:Nat->Prop} {B:Nat->Nat} {T mb:Nat} {es:List Ent} {w0:World} (hT:Tab A w0 T mb B es) (hS:Shape es) (hml:∀ i,(Zar es i).length<=9223372036854775807) (x:Nat) (hx:x<es.length) (y:Nat) (hy:y<es.length) (c:Nat) (w:World) (hw:Below w0.heap.size w0 w)
  (h:w.cell? ⟨c,0,none⟩=some (entV B x)) (hr:∀ m ∈ Zar es y,(ZbI es (some x) m.name).isSome=true) :
  Calls Tryz.prog 183 #[entV B y,.pointer (some ⟨c,0,none⟩)] w (Said (ZbT es x y) w):=by
 have hmf:∀ (fn:Fn) (first cap:Array Value) (w:World),(Instr.makeFunc fn first cap).run Tryz.prog w=.ok (.func fn first cap) w:=fun _ _ _ _=>rfl
 obtain ⟨e,he⟩:∃ e,es[y]? = some e:=⟨_,Yaa hy⟩
 obtain ⟨lv,fv,mv,sv,hb,_,_,h3,_⟩:=(hT.below hw).ent y e he;have hma:=Zcg he;rw [hma] at hr;have c8:w.cell? ⟨B y,8,none⟩=some mv:=hb.cell 8 rfl;have HC:=Hd (Zc8 (A:=A) 184 #[.pointer (some ⟨c,0,none⟩)] (fun m=>absM es x m.name) e.cls.mths mv w (Zai Tryz.func184 (by kernel_rfl) rfl) h3 (fun k m v w' hm hw' hv=>
  ZmK hT hS hml x hx m v c w' (hw.trans (hw'.mono hw.size)) hv ((Yad (S:=fun _=>False) hw').cell h id) (hr m (Yaf hm))) (by have:=hml y;rw [hma] at this;exact this))
 have hl:ZbT es x y=e.cls.mths.any fun m=>absM es x m.name:=by unfold ZbT;rw [hma]
 rw [hl];obtain ⟨mo,mc,rfl⟩:=h3.shape;generalize (e.cls.mths.any fun m=>absM es x m.name)=r at HC ⊢;generalize e.cls.mths.length=k at HC c8;clear hT hS hml he hb h3 hma hl hr h hx hy;go_enter Tryz.func183,Tryz.ntmps183
 go_wp2_with fail
 refine HC.o.mono ?_;rintro e w1 ⟨rfl,hb1⟩;have HB1:=Hd hb1;clear hb1 HC c8;go_wp2;go_ret;exact ⟨rfl,HB1.o⟩
theorem Zcy {es:List Ent} (hS:Shape es) {o:Option Nat} (ho:∀ i,o=some i->i<es.length) {d y:Nat} (hd:d ∈ Zap es o) (hy:y ∈ Zau es d):y ∈ ZaE es o:=by
 have hc:=hS.line o ho;unfold ZaE ZcO;rcases Yav.1 hy with e|h
 ·rw [e];exact Ya7 _ hd
 ·refine YaZ _ ((Zgq (hS.mem hc) y).2 ⟨d,hd,?_⟩);obtain ⟨e,he⟩:=Zbt hc d hd;exact (ZnU (by rw [Zba he];exact hS.deep d e he) y).1 h
theorem Zdc {es:List Ent} {o:Option Nat} {y:Nat} (hy:y ∈ ZaE es o) {m:Mth} (hm:m ∈ Zar es y):(ZbI es o m.name).isSome=true:=by
 unfold ZbI;rw [List.isSome_findSome?];refine YaQ.2 ⟨y,hy,?_⟩;rw [Option.isSome_map];unfold ownM;rw [List.find?_isSome];exact ⟨m,hm,by simp⟩
theorem ZmL {A:Nat->Prop} {B:Nat->Nat} {T mb:Nat} {es:List Ent} {w0:World} (hT:Tab A w0 T mb B es) (hS:Shape es) (hu:Zc3 es) (hml:∀ i,(Zar es i).length<=9223372036854775807) (x:Nat) (hx:x<es.length) (w:World) (hw:Below w0.heap.size w0 w) :
  Calls Tryz.prog 116 #[entV B x] w (Said (Zb0 es x) w):=by
 have hmf:∀ (fn:Fn) (first cap:Array Value) (w:World),(Instr.makeFunc fn first cap).run Tryz.prog w=.ok (.func fn first cap) w:=fun _ _ _ _=>rfl
 obtain ⟨e,he⟩:∃ e,es[x]? = some e:=⟨_,Yaa hx⟩
 have hup:∀ (i:Nat) (e:Ent) (j:Nat),es[i]? = some e->e.up=some j->j<es.length:=fun i e j h1 h2=>hu i j (ZbG h1 h2)
 have hb1:Below w.heap.size w (w.alloc (.cells #[entV B x] 94)):=Zaa (Yab _ _) _;have hox:∀ i,some x=some i->i<es.length:=fun i hi=>by obtain rfl:=Yae hi;exact hx
 have hline:=ZfV hS hup he;have hua:=Zci he;have hcu:Zdw es (Zap es e.up) e.up:=hS.line e.up (fun j hj=>hup x e j he hj);have hfound:∀ d ∈ Zap es (some x),∀ y ∈ Zau es d,∀ m ∈ Zar es y,(ZbI es (some x) m.name).isSome=true:=fun d hd y hy m hm=>Zdc (Zcy hS hox hd hy) hm
 have HAD:Hid (∀ d W,d ∈ Zap es (some x)->Below (w.alloc (.cells #[entV B x] 94)).heap.size (w.alloc (.cells #[entV B x] 94)) W->Calls Tryz.prog 178 #[entV B d,.func (.func 183) #[] #[.pointer (some ⟨w.heap.size,0,none⟩)]] W (Said ((Zau es d).any (ZbT es x)) W)):=Hd (fun d W hd hW=>by
  obtain ⟨ed,hed⟩:=Zbt (hS.line (some x) hox) d hd;refine ZjM hT hS _ _ (Zai Tryz.func183 (by kernel_rfl) rfl) d (Yag.1 hed).1 (ZbT es x) W (hw.trans ((hb1.trans (hW.mono hb1.size)).mono hw.size)) (fun y w' hy hw'=>?_);have hb2:=hb1.trans ((hW.trans (hw'.mono hW.size)).mono hb1.size);exact ZmJ hT hS hml x hx y (Zd0 hS hox y (Zcy hS hox hd hy)) w.heap.size w' (hw.trans (hb2.mono hw.size)) (((Box.new w #[entV B x] 94).below (hW.trans (hw'.mono hW.size))).cell 0 rfl) (hfound d hd y hy))
 have HB1:=Hd hb1;have HW:=Hd hw;have HT:=Hd hT;have HX:Hid (∀ W,Below (w.alloc (.cells #[entV B x] 94)).heap.size (w.alloc (.cells #[entV B x] 94)) W->W.cell? ⟨w.heap.size,0,none⟩=some (entV B x)/\W.cell? ⟨B x,5,none⟩=some (.bool e.cls.abs)/\W.cell? ⟨B x,9,none⟩=some (ptrV B e.up)):=Hd (fun W hW=>by
  obtain ⟨_,_,_,_,hb,_,_,_,_⟩:=(hT.below (hw.trans ((hb1.trans (hW.mono hb1.size)).mono hw.size))).ent x e he;exact ⟨((Box.new w #[entV B x] 94).below hW).cell 0 rfl,hb.cell 5 rfl,hb.cell 9 rfl⟩)
 obtain ⟨R,hR⟩:∃ R,R=Zb0 es x:=⟨_,rfl⟩
 rw [←hR];unfold Zb0 at hR;rw [hua,Zgc he] at hR;have hmem:∀ k i,(Zap es e.up)[k]? = some i->i ∈ Zap es (some x):=fun k i hk=>by rw [hline];exact Yap _ (Yaf hk)
 have hx0:x ∈ Zap es (some x):=by rw [hline];exact Yal
 have HMEM:=Hd hmem;generalize Zap es e.up=L at hR hcu HMEM;have HR:=Hd hR;have HC:=Hd hcu;have HX0:=Hd hx0;obtain ⟨g1,g2,g3⟩:=HX.o _ (Yab _ _);generalize hab:e.cls.abs=ab at HX HR g2;generalize hup2:e.up=o at HX HC g3;clear hR hcu hx0 hT hS hu hml hx hw hup hb1 hox hline hua hfound hmem hab hup2 he;cases ab with
 | true=>
  go_enter Tryz.func116,Tryz.ntmps116;go_wp2;go_ret;refine ⟨?_,HB1.o⟩;have:=HR.o;simp only [Bool.not_true,YaF] at this;rw [this];rfl
 | false=>
  go_enter Tryz.func116,Tryz.ntmps116
  go_wp2_with fail
  refine (HAD.o x _ HX0.o (Yab _ _)).mono ?_;rintro e1 w1 ⟨rfl,hb1⟩;have HR1:Hid (R=((Zau es x).any (ZbT es x) || (L.takeWhile (Zcl es)).any fun d=>(Zau es d).any (ZbT es x))):=Hd (by have:=HR.o;simpa using this);obtain ⟨f1,f2,f3⟩:=HX.o _ hb1;have HV1:=Hd hb1;generalize (Zau es x).any (ZbT es x)=r0 at HR1 ⊢;clear g1 g2 g3 hb1 HR HX0;obtain ⟨q,hq⟩:=ZdI B o;rw [hq] at f3;have HQ:=Hd hq;clear hq
  go_wp2_with fail
  clear f1 f2 f3
  go_loopg [4,5] (L.length+1) (fun gk v3 v4 wr=>∃ (k:Nat) (o:Option Nat) (fd:Bool),v3=.bool fd/\v4=ptrV B o/\Zdw es (L.drop k) o/\R=(fd || ((L.drop k).takeWhile (Zcl es)).any fun d=>(Zau es d).any (ZbT es x))/\k<=L.length/\L.length - k<gk/\Below (w.alloc (.cells #[entV B x] 94)).heap.size (w.alloc (.cells #[entV B x] 94)) wr)
  case atStart=>exact ⟨0,o,r0,rfl,HQ.o.symm,HC.o,HR1.o,Yai _,by omega,HV1.o⟩
  case round=>
   obtain ⟨k,o,fd,rfl,hv,hc,hr,hk,hg,hbw⟩:=hrel;have HBW:=Hd hbw;have HRK:=Hd hr;clear hbw hr;cases fd with
   | true=>
    go_wp2;go_ret;exact ⟨by rw [HRK.o];rfl,HB1.o.trans (HBW.o.mono HB1.o.size)⟩
   | false=>
    cases hd:L.drop k with
    | nil=>
     rw [hd] at hc;obtain rfl:o=none:=hc;have hv':u5=.pointer none:=hv;subst hv';have hR0:R=false:=by rw [HRK.o,hd];rfl
     have HR0:=Hd hR0;clear hv hd hR0;go_wp2;go_ret;exact ⟨by rw [HR0.o];rfl,HB1.o.trans (HBW.o.mono HB1.o.size)⟩
    | cons i r=>
     rw [hd] at hc;obtain ⟨ho,ei,hei,hcr⟩:=hc;obtain ⟨hxk,hrk,hkl⟩:=Zhb hd;subst ho;have hv':u5=.pointer (some ⟨B i,0,none⟩):=hv;subst hv';obtain ⟨_,_,_,_,hbi,_,_,_,_⟩:=(HT.o.below (HW.o.trans ((HB1.o.trans (HBW.o.mono HB1.o.size)).mono HW.o.size))).ent i ei hei;have c5:wr.cell? ⟨B i,5,none⟩=some (.bool ei.cls.abs):=hbi.cell 5 rfl;have hai:=Zgc hei;cases hab:ei.cls.abs with
     | false=>
      rw [hab] at c5 hai;have hR0:R=false:=by rw [HRK.o,hd,List.takeWhile_cons,hai];rfl
      have HR0:=Hd hR0;clear hv hcr hd hR0 hbi hai hab hxk hrk;go_wp2;go_ret;exact ⟨by rw [HR0.o];rfl,HB1.o.trans (HBW.o.mono HB1.o.size)⟩
     | true=>
      rw [hab] at c5 hai;have hR1:R=((Zau es i).any (ZbT es x) || (r.takeWhile (Zcl es)).any fun d=>(Zau es d).any (ZbT es x)):=by rw [HRK.o,hd,List.takeWhile_cons,hai];simp
      have HR2:=Hd hR1;have HCR:=Hd hcr;have HRR:=Hd hrk;have HEI:=Hd hei;have HCALL:=Hd (HAD.o i wr (HMEM.o k i hxk) HBW.o);generalize (Zau es i).any (ZbT es x)=ri at HR2 HCALL;clear hv hcr hd hR1 hbi hai hab hxk hrk hei
      go_wp2_with fail
      refine HCALL.o.mono ?_;rintro e3 w3 ⟨rfl,hb3⟩;have HB3:=Hd (HBW.o.trans (hb3.mono HBW.o.size));clear hb3 c5 HCALL;obtain ⟨_,_,_,_,hbi,_,_,_,_⟩:=(HT.o.below (HW.o.trans ((HB1.o.trans (HB3.o.mono HB1.o.size)).mono HW.o.size))).ent i ei HEI.o;have c9:w3.cell? ⟨B i,9,none⟩=some (ptrV B ei.up):=hbi.cell 9 rfl;clear hbi;go_wp2
      go_roundg (L.length - k)
      case measure=>omega
      case rel=>exact ⟨k+1,ei.up,ri,rfl,rfl,by rw [HRR.o];exact HCR.o,by rw [HRR.o];exact HR2.o,hkl,by omega,HB3.o⟩
def Zlu (A:Nat->Prop) (F:Nat) (caps:Array Value) (l:List Mth) (J K:Nat->World->Prop):Prop:=
 ∀ (k:Nat) (x:Mth) (v:Value) (w:World),l[k]? = some x->J k w->MthR A w x v->Calls Tryz.prog F (#[v]++caps) w (YesNo (K k) (J (k+1)))
theorem Zkj {A:Nat->Prop} (F:Nat) (caps:Array Value) (l:List Mth) (so:Option Addr) (cp:Nat) (J K:Nat->World->Prop) (w:World) (he:∀ args w,(callFunc F args).run Tryz.prog w=.ok (.enter F args) w)
  (hst:∀ k w',J k w'->Src 7 MthR A w' (.slice so l.length cp) l) (h0:J 0 w) (hF:Zlu A F caps l J K) (hlen:l.length<=9223372036854775807) :
  Calls Tryz.prog 203 #[.slice so l.length cp,.func (.func F) #[] caps] w (Zpl l.length J K):=by
 have HF:=Hd hF;have HE:=Hd he;have HS:=Hd hst;have H0:=Hd h0;obtain ⟨n,hn⟩:∃ n,n=l.length:=⟨_,rfl⟩
 rw [←hn] at hlen ⊢;simp only [←hn] at HS;have HN:=Hd hn;clear hF he hst h0 hn;go_enter Tryz.func203,Tryz.ntmps203;go_wp2
 go_loopw [8] (fun v8 wr=>∃ k:Nat,k<=n/\v8=.int .i64 k/\J k wr) (fun v8 _=>n - (intOf v8).toNat)
 case atStart=>exact ⟨0,Yai _,rfl,H0.o⟩
 case round=>
  obtain ⟨k,hk,rfl,hj⟩:=hrel;have HJ:=Hd hj;clear hj;by_cases hlt:k<n
  ·have hkl:k<l.length:=by have:=HN.o;omega
   obtain ⟨x,hx⟩:∃ x,l[k]? = some x:=⟨_,Yaa hkl⟩
   obtain ⟨b,o,v,rfl,hv,_,hcl⟩:=Src.elem (HS.o k wr HJ.o) k x hx;have HV:=Hd hv;obtain ⟨_,_,_,rfl,⟨po,pc,rfl⟩,⟨co,cc,rfl⟩,⟨ko,kc,rfl⟩⟩:=Zam hv;have d0:wr.cell? ⟨b,o+k * 7,none⟩=some (.string (S x.name)):=hcl 0 _ rfl;have d1:wr.cell? ⟨b,o+k * 7+1,none⟩=some (.slice po x.params.length pc):=hcl 1 _ rfl;have d2:wr.cell? ⟨b,o+k * 7+2,none⟩=some (.string (S x.res)):=hcl 2 _ rfl;have d3:wr.cell? ⟨b,o+k * 7+3,none⟩=some (.bool x.abs):=hcl 3 _ rfl;have d4:wr.cell? ⟨b,o+k * 7+4,none⟩=some (.int .i64 x.loc):=hcl 4 _ rfl;have d5:wr.cell? ⟨b,o+k * 7+5,none⟩=some (.slice co x.code.length cc):=hcl 5 _ rfl;have d6:wr.cell? ⟨b,o+k * 7+6,none⟩=some (.slice ko x.cats.length kc):=hcl 6 _ rfl;clear hcl hv;have HX:=Hd hx;clear hx hkl;have hk0:(0:Int)<=k:=by omega
   have hkn:(k:Int)<(n:Int):=by omega
   have he:=HE.o
   go_wp2_with fail
   refine (HF.o k x _ wr HX.o HJ.o HV.o).mono ?_;rintro e w1 ⟨b',rfl,hy,hno⟩;have HY:=Hd hy;have HNO:=Hd hno;clear he d0 d1 d2 d3 d4 d5 d6 hy hno;cases b' with
   | true=>
    have HK:=Hd (HY.o rfl);clear HY HNO;go_wp2;go_ret;exact ⟨k,rfl,Or.inl ⟨by omega,k,hlt,rfl,HK.o⟩⟩
   | false=>
    have HK:=Hd (HNO.o rfl);clear HY HNO;go_wp2
    go_roundw
    case rel=>exact ⟨k+1,by omega,by go_num,HK.o⟩
    case measure=>simp [intOf];omega
  ·obtain rfl:n=k:=by omega
   go_wp2;go_ret;exact ⟨-1,rfl,Or.inr ⟨by decide,HJ.o⟩⟩
theorem ZlN {A:Nat->Prop} (F:Nat) (caps:Array Value) (l:List Mth) (sv:Value) (J K:Nat->World->Prop) (w:World) (he:∀ args w,(callFunc F args).run Tryz.prog w=.ok (.enter F args) w)
  (hst:∀ k w',J k w'->Src 7 MthR A w' sv l) (h0:J 0 w) (hF:Zlu A F caps l J K) (hlen:l.length<=9223372036854775807) :
  Calls Tryz.prog 146 #[sv,.func (.func F) #[] caps] w (YesNo (fun w'=>∃ k,k<l.length/\K k w') (J l.length)):=by
 obtain ⟨so,cp,rfl⟩:=(hst 0 w h0).shape;have HI:=Hd (Zkj F caps l so cp J K w he hst h0 hF hlen);generalize l.length=n at HI ⊢;clear he hst h0 hF hlen;go_enter Tryz.func146,Tryz.ntmps146
 go_wp2_with fail
 refine HI.o.mono ?_;rintro e w1 ⟨z,rfl,hz⟩;have HZ:=Hd hz;rcases hz with ⟨h1,_⟩|⟨h1,_⟩
 ·have HK:Hid (∃ k,k<n/\K k w1):=Hd (by
   rcases HZ.o with ⟨_,k,hk,_,h⟩|⟨h2,_⟩
   ·exact ⟨k,hk,h⟩
   ·omega)
  clear HZ;go_wp2;go_ret;exact ⟨true,rfl,fun _=>HK.o,(fun h=>by cases h)⟩
 ·have HK:Hid (J n w1):=Hd (by
   rcases HZ.o with ⟨h2,_⟩|⟨_,h⟩
   ·omega
   ·exact h)
  have h0:decide (0<=z)=false:=by rw [decide_eq_false_iff_not];omega
  clear HZ;go_wp2;go_ret;exact ⟨false,rfl,(fun h=>by cases h),fun _=>HK.o⟩
def orM (r:Option (Nat × Mth)) (m:Mth):Mth:=match r with|some r=>r.2|none=>m
def inhE (es:List Ent) (x:Nat) (m:Mth):Mth:=orM (ZbI es (upAt es x) m.name) m
theorem ZpR {A:Nat->Prop} {B:Nat->Nat} {T mb:Nat} {es:List Ent} {w0:World} (hT:Tab A w0 T mb B es) (hS:Shape es) (hu:Zc3 es) (hml:∀ i,(Zar es i).length<=9223372036854775807) (x:Nat) (hx:x<es.length) (m:Mth) (v:Value) (w:World) (hw:Below w0.heap.size w0 w)
  (hv:MthR (fun k=>k<w0.heap.size) w m v) :
  Calls Tryz.prog 181 #[entV B x,v] w (fun e w'=>∃ v',e=.returned v'/\MthR (fun k=>k<w0.heap.size) w' (inhE es x m) v'/\Below w.heap.size w w'):=by
 obtain ⟨e,he⟩:∃ e,es[x]? = some e:=⟨_,Yaa hx⟩
 have hua:=Zci he;have HV:=Hd hv;obtain ⟨_,_,_,rfl,⟨po,pc,rfl⟩,⟨co,cc,rfl⟩,⟨ko,kc,rfl⟩⟩:=Zam hv;have hb0:Below w.heap.size w ((w.alloc (.cells #[.string (S m.name),.slice po m.params.length pc,.string (S m.res),.bool m.abs,.int .i64 m.loc,.slice co m.code.length cc,.slice ko m.cats.length kc] 44)).alloc (.cells #[.string ⟨#[]⟩,.slice none 0 0,.string ⟨#[]⟩,.bool false,.int .i64 0,.slice none 0 0,.slice none 0 0] 44)):=Zaa (Zaa (Yab _ _) _) _;have hs1:(w.alloc (.cells #[.string (S m.name),.slice po m.params.length pc,.string (S m.res),.bool m.abs,.int .i64 m.loc,.slice co m.code.length cc,.slice ko m.cats.length kc] 44)).heap.size=w.heap.size+1:=by simp
 have HB0:=Hd hb0;have HX:=Hd ((Box.new w #[.string (S m.name),.slice po m.params.length pc,.string (S m.res),.bool m.abs,.int .i64 m.loc,.slice co m.code.length cc,.slice ko m.cats.length kc] 44).below (Zaa (Yab _ _) (.cells #[.string ⟨#[]⟩,.slice none 0 0,.string ⟨#[]⟩,.bool false,.int .i64 0,.slice none 0 0,.slice none 0 0] 44)));have hz:=Box.new (w.alloc (.cells #[.string (S m.name),.slice po m.params.length pc,.string (S m.res),.bool m.abs,.int .i64 m.loc,.slice co m.code.length cc,.slice ko m.cats.length kc] 44)) #[.string ⟨#[]⟩,.slice none 0 0,.string ⟨#[]⟩,.bool false,.int .i64 0,.slice none 0 0,.slice none 0 0] 44;rw [hs1] at hz;have HZ:=Hd hz;have HW:=Hd hw;obtain ⟨r,hr⟩:∃ r,r=ZbI es e.up m.name:=⟨_,rfl⟩
 have HM:Hid (∀ W,Below w.heap.size w W->Calls Tryz.prog 185 #[ptrV B e.up,.string (S m.name)] W (Zpu A B w0 r W)):=Hd (fun W hW=>by
  rw [hr];exact Zju hT hS hml e.up (fun j hj=>hu x j (ZbG he hj)) m.name W (hw.trans (hW.mono hw.size)))
 have hin:inhE es x m=orM r m:=by unfold inhE;rw [hua,hr]
 rw [hin];obtain ⟨q,hq⟩:=ZdI B e.up;have HS:Hid (∀ W,Below ((w.alloc (.cells #[.string (S m.name),.slice po m.params.length pc,.string (S m.res),.bool m.abs,.int .i64 m.loc,.slice co m.code.length cc,.slice ko m.cats.length kc] 44)).alloc (.cells #[.string ⟨#[]⟩,.slice none 0 0,.string ⟨#[]⟩,.bool false,.int .i64 0,.slice none 0 0,.slice none 0 0] 44)).heap.size ((w.alloc (.cells #[.string (S m.name),.slice po m.params.length pc,.string (S m.res),.bool m.abs,.int .i64 m.loc,.slice co m.code.length cc,.slice ko m.cats.length kc] 44)).alloc (.cells #[.string ⟨#[]⟩,.slice none 0 0,.string ⟨#[]⟩,.bool false,.int .i64 0,.slice none 0 0,.slice none 0 0] 44)) W->W.cell? ⟨B x,9,none⟩=some (.pointer q)/\W.cell? ⟨w.heap.size,0,none⟩=some (.string (S m.name))):=Hd (fun W hW=>by
  obtain ⟨lv,fv,mv,sv,hbx,_⟩:=(hT.below (hw.trans ((hb0.trans (hW.mono hb0.size)).mono hw.size))).ent x e he;have c9:=hbx.cell 9 rfl;exact ⟨by rw [←hq];exact c9,(HX.o.below hW).cell 0 rfl⟩)
 rw [hq] at HM;clear hT hS hu hml hw hv hb0 hr hin hua he hx hs1 hz hq;go_enter Tryz.func181,Tryz.ntmps181
 go_upto_region 1 with fail
 generalize (w.alloc (.cells #[.string (S m.name),.slice po m.params.length pc,.string (S m.res),.bool m.abs,.int .i64 m.loc,.slice co m.code.length cc,.slice ko m.cats.length kc] 44)).alloc (.cells #[.string ⟨#[]⟩,.slice none 0 0,.string ⟨#[]⟩,.bool false,.int .i64 0,.slice none 0 0,.slice none 0 0] 44)=W0 at HB0 HX HZ HS ⊢;have h0:Below W0.heap.size W0 W0:=Yab _ _;obtain ⟨g1,g2⟩:=HS.o W0 h0;first
 | (go_region_held (fun W=>W.cell? ⟨B x,9,none⟩=some (.pointer q)/\W.cell? ⟨w.heap.size,0,none⟩=some (.string (S m.name))) ((refine HS.o _ ?_;(repeat (first|(with_reducible exact Yab _ _)|(with_reducible (apply Zac;rotate_left;assumption))|(with_reducible refine Zab ?_)))))
   (first|((with_reducible refine (HM.o _ ?_).mono ?_);(focus (with_reducible refine Zac HB0.o ?_;(repeat (first|(with_reducible exact Yab _ _)|(with_reducible assumption)|(with_reducible refine Zab ?_)));done));rintro e1 w1 ⟨po1,pm1,rfl,hP,hb1⟩)))
 | fail
 have hb2:Below W0.heap.size W0 w1:=(by first|exact Zac (Zab h0) hb1|exact Zac (Zab (Zab h0)) hb1|exact Zac (Zab (Zab (Zab h0))) hb1);have HB1:=Hd (HB0.o.trans (hb2.mono HB0.o.size));have x1:=HX.o.below hb2;have z1:=HZ.o.below hb2;have HV1:=Hd (MthR.st.keep HV.o (Yad (S:=fun _=>False) HB1.o) (fun _ _=>id));clear hb1 hb2 g1 g2 HM HS h0;have HGE:Hid (w.heap.size<=w.heap.size+1):=Hd (Nat.le_succ _);cases r with
 | none=>
  obtain rfl:pm1=none:=hP;have c0:=x1.cell 0 rfl;have c1:=x1.cell 1 rfl;have c2:=x1.cell 2 rfl;have c3:=x1.cell 3 rfl;have c4:=x1.cell 4 rfl;have c5:=x1.cell 5 rfl;have c6:=x1.cell 6 rfl;clear x1;have p0:=z1.cell 0 rfl;have r0:=z1.free 0;have p1:=z1.cell 1 rfl;have r1:=z1.free 1;have p2:=z1.cell 2 rfl;have r2:=z1.free 2;have p3:=z1.cell 3 rfl;have r3:=z1.free 3;have p4:=z1.cell 4 rfl;have r4:=z1.free 4;have p5:=z1.cell 5 rfl;have r5:=z1.free 5;have p6:=z1.cell 6 rfl;have r6:=z1.free 6;have Z1:=Hd z1;clear z1;go_wp2;have z1:=Z1.o;have l:=ZaD (P:=Tryz.prog) (w:=(((((((w1.setCell ⟨w.heap.size+1,0,none⟩ (.string (S m.name))).setCell ⟨w.heap.size+1,1,none⟩ (.slice po m.params.length pc)).setCell ⟨w.heap.size+1,2,none⟩ (.string (S m.res))).setCell ⟨w.heap.size+1,3,none⟩ (.bool m.abs)).setCell ⟨w.heap.size+1,4,none⟩ (.int .i64 m.loc)).setCell ⟨w.heap.size+1,5,none⟩ (.slice co m.code.length cc)).setCell ⟨w.heap.size+1,6,none⟩ (.slice ko m.cats.length kc))) (cs:=#[.string (S m.name),.slice po m.params.length pc,.string (S m.res),.bool m.abs,.int .i64 m.loc,.slice co m.code.length cc,.slice ko m.cats.length kc]) (((((((z1.set 0 (.string (S m.name))).set 1 (.slice po m.params.length pc)).set 2 (.string (S m.res))).set 3 (.bool m.abs)).set 4 (.int .i64 m.loc)).set 5 (.slice co m.code.length cc)).set 6 (.slice ko m.cats.length kc)) Tryz.underlying44 rfl Zbz;have hb:Below w.heap.size w (((((((w1.setCell ⟨w.heap.size+1,0,none⟩ (.string (S m.name))).setCell ⟨w.heap.size+1,1,none⟩ (.slice po m.params.length pc)).setCell ⟨w.heap.size+1,2,none⟩ (.string (S m.res))).setCell ⟨w.heap.size+1,3,none⟩ (.bool m.abs)).setCell ⟨w.heap.size+1,4,none⟩ (.int .i64 m.loc)).setCell ⟨w.heap.size+1,5,none⟩ (.slice co m.code.length cc)).setCell ⟨w.heap.size+1,6,none⟩ (.slice ko m.cats.length kc)):=(((((((HB1.o.setCell HGE.o (.string (S m.name))).setCell HGE.o (.slice po m.params.length pc)).setCell HGE.o (.string (S m.res))).setCell HGE.o (.bool m.abs)).setCell HGE.o (.int .i64 m.loc)).setCell HGE.o (.slice co m.code.length cc)).setCell HGE.o (.slice ko m.cats.length kc));have ho:Only (fun i=>i=w.heap.size+1) w1 (((((((w1.setCell ⟨w.heap.size+1,0,none⟩ (.string (S m.name))).setCell ⟨w.heap.size+1,1,none⟩ (.slice po m.params.length pc)).setCell ⟨w.heap.size+1,2,none⟩ (.string (S m.res))).setCell ⟨w.heap.size+1,3,none⟩ (.bool m.abs)).setCell ⟨w.heap.size+1,4,none⟩ (.int .i64 m.loc)).setCell ⟨w.heap.size+1,5,none⟩ (.slice co m.code.length cc)).setCell ⟨w.heap.size+1,6,none⟩ (.slice ko m.cats.length kc)):=((((((((Yan (fun i=>i=w.heap.size+1) w1).setCell rfl (.string (S m.name))).setCell rfl (.slice po m.params.length pc)).setCell rfl (.string (S m.res))).setCell rfl (.bool m.abs)).setCell rfl (.int .i64 m.loc)).setCell rfl (.slice co m.code.length cc)).setCell rfl (.slice ko m.cats.length kc));refine bodyPost_ret (v:=.agg #[.string (S m.name),.slice po m.params.length pc,.string (S m.res),.bool m.abs,.int .i64 m.loc,.slice co m.code.length cc,.slice ko m.cats.length kc]) ?_ rfl ⟨_,rfl,MthR.st.keep HV1.o ho (fun i (hi:i<w0.heap.size) (h:i=w.heap.size+1)=>by have:=HW.o.size;omega),hb⟩;simp only [results,Tryz.results181];simp [asAddr,l]
 | some r=>
  obtain ⟨i,r⟩:=r;obtain ⟨_,b,o,v,hpm,hmv,_,hbl,hcl⟩:=hP;obtain rfl:=Value.pointer.inj hpm;have hmv2:=MthR.st.mono (A':=fun k=>k<w0.heap.size) hmv (fun k hk _=>hk);have HR1:=Hd (MthR.st.keep hmv2 (Yad (S:=fun _=>False) (HW.o.trans (HB1.o.mono HW.o.size))) (fun _ _=>id));obtain ⟨_,_,_,rfl,⟨qo,qc,rfl⟩,⟨dd,dc,rfl⟩,⟨lo,lc,rfl⟩⟩:=Zam hmv;have ho:=Yad (S:=fun _=>False) (HW.o.trans (HB1.o.mono HW.o.size));have c0:w1.cell? ⟨b,o,none⟩=some (.string (S r.name)):=ho.cell (a:=⟨b,o,none⟩) (hcl 0 _ rfl) id;have c1:w1.cell? ⟨b,o+1,none⟩=some (.slice qo r.params.length qc):=ho.cell (hcl 1 _ rfl) id;have c2:w1.cell? ⟨b,o+2,none⟩=some (.string (S r.res)):=ho.cell (hcl 2 _ rfl) id;have c3:w1.cell? ⟨b,o+3,none⟩=some (.bool r.abs):=ho.cell (hcl 3 _ rfl) id;have c4:w1.cell? ⟨b,o+4,none⟩=some (.int .i64 r.loc):=ho.cell (hcl 4 _ rfl) id;have c5:w1.cell? ⟨b,o+5,none⟩=some (.slice dd r.code.length dc):=ho.cell (hcl 5 _ rfl) id;have c6:w1.cell? ⟨b,o+6,none⟩=some (.slice lo r.cats.length lc):=ho.cell (hcl 6 _ rfl) id;clear x1 ho hcl hmv hmv2;have p0:=z1.cell 0 rfl;have r0:=z1.free 0;have p1:=z1.cell 1 rfl;have r1:=z1.free 1;have p2:=z1.cell 2 rfl;have r2:=z1.free 2;have p3:=z1.cell 3 rfl;have r3:=z1.free 3;have p4:=z1.cell 4 rfl;have r4:=z1.free 4;have p5:=z1.cell 5 rfl;have r5:=z1.free 5;have p6:=z1.cell 6 rfl;have r6:=z1.free 6;have Z1:=Hd z1;clear z1;go_wp2;have z1:=Z1.o;have l:=ZaD (P:=Tryz.prog) (w:=(((((((w1.setCell ⟨w.heap.size+1,0,none⟩ (.string (S r.name))).setCell ⟨w.heap.size+1,1,none⟩ (.slice qo r.params.length qc)).setCell ⟨w.heap.size+1,2,none⟩ (.string (S r.res))).setCell ⟨w.heap.size+1,3,none⟩ (.bool r.abs)).setCell ⟨w.heap.size+1,4,none⟩ (.int .i64 r.loc)).setCell ⟨w.heap.size+1,5,none⟩ (.slice dd r.code.length dc)).setCell ⟨w.heap.size+1,6,none⟩ (.slice lo r.cats.length lc))) (cs:=#[.string (S r.name),.slice qo r.params.length qc,.string (S r.res),.bool r.abs,.int .i64 r.loc,.slice dd r.code.length dc,.slice lo r.cats.length lc]) (((((((z1.set 0 (.string (S r.name))).set 1 (.slice qo r.params.length qc)).set 2 (.string (S r.res))).set 3 (.bool r.abs)).set 4 (.int .i64 r.loc)).set 5 (.slice dd r.code.length dc)).set 6 (.slice lo r.cats.length lc)) Tryz.underlying44 rfl Zbz;have hb:Below w.heap.size w (((((((w1.setCell ⟨w.heap.size+1,0,none⟩ (.string (S r.name))).setCell ⟨w.heap.size+1,1,none⟩ (.slice qo r.params.length qc)).setCell ⟨w.heap.size+1,2,none⟩ (.string (S r.res))).setCell ⟨w.heap.size+1,3,none⟩ (.bool r.abs)).setCell ⟨w.heap.size+1,4,none⟩ (.int .i64 r.loc)).setCell ⟨w.heap.size+1,5,none⟩ (.slice dd r.code.length dc)).setCell ⟨w.heap.size+1,6,none⟩ (.slice lo r.cats.length lc)):=(((((((HB1.o.setCell HGE.o (.string (S r.name))).setCell HGE.o (.slice qo r.params.length qc)).setCell HGE.o (.string (S r.res))).setCell HGE.o (.bool r.abs)).setCell HGE.o (.int .i64 r.loc)).setCell HGE.o (.slice dd r.code.length dc)).setCell HGE.o (.slice lo r.cats.length lc));have ho:Only (fun i=>i=w.heap.size+1) w1 (((((((w1.setCell ⟨w.heap.size+1,0,none⟩ (.string (S r.name))).setCell ⟨w.heap.size+1,1,none⟩ (.slice qo r.params.length qc)).setCell ⟨w.heap.size+1,2,none⟩ (.string (S r.res))).setCell ⟨w.heap.size+1,3,none⟩ (.bool r.abs)).setCell ⟨w.heap.size+1,4,none⟩ (.int .i64 r.loc)).setCell ⟨w.heap.size+1,5,none⟩ (.slice dd r.code.length dc)).setCell ⟨w.heap.size+1,6,none⟩ (.slice lo r.cats.length lc)):=((((((((Yan (fun i=>i=w.heap.size+1) w1).setCell rfl (.string (S r.name))).setCell rfl (.slice qo r.params.length qc)).setCell rfl (.string (S r.res))).setCell rfl (.bool r.abs)).setCell rfl (.int .i64 r.loc)).setCell rfl (.slice dd r.code.length dc)).setCell rfl (.slice lo r.cats.length lc));refine bodyPost_ret (v:=.agg #[.string (S r.name),.slice qo r.params.length qc,.string (S r.res),.bool r.abs,.int .i64 r.loc,.slice dd r.code.length dc,.slice lo r.cats.length lc]) ?_ rfl ⟨_,rfl,MthR.st.keep HR1.o ho (fun i (hi:i<w0.heap.size) (h:i=w.heap.size+1)=>by have:=HW.o.size;omega),hb⟩;simp only [results,Tryz.results181];simp [asAddr,l]
