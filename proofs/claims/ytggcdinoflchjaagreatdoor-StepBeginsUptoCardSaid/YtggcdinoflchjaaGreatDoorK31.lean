/- laws -/
import Derived.Test.YtggcdinoflchjaaGreatDoorK30
set_option maxRecDepth 100000
set_option maxHeartbeats 16000000
namespace Go.Proofs.YtggcdinoflchjaaGreatDoor
open Go.RowKit
def hasF (es:List Ent) (o:Option Nat) (n:List UInt8):Bool:=(Zap es o).any fun x=>(Zbh es x).any fun f=>f.name == n
theorem Zmg {w:World} {f:Fld} {n:List UInt8} {c:Nat} (h:w.cell? ⟨c,0,none⟩=some (.string (S n))) :
  Calls Tryz.prog 173 #[fldV f,.pointer (some ⟨c,0,none⟩)] w (Said (f.name == n) w):=by
 have e0:=Zae f.name;have e1:=Zae n;have hlt:c<w.heap.size:=World.block_lt_of_cell? w _ h;go_enter Tryz.func173,Tryz.ntmps173;go_wp2;go_ret;exact ⟨rfl,(Yab _ w).alloc (Yac _) _⟩
theorem Zmf {A:Nat->Prop} {B:Nat->Nat} {T mb:Nat} {es:List Ent} {w0:World} (hT:Tab A w0 T mb B es) (hfl:∀ (i:Nat) (e:Ent),es[i]? = some e->e.cls.flds.length<=32) (x:Nat) (hx:x<es.length) (n:List UInt8) (c:Nat) (w:World) (hw:Below w0.heap.size w0 w)
  (h:w.cell? ⟨c,0,none⟩=some (.string (S n))) :
  Calls Tryz.prog 172 #[entV B x,.pointer (some ⟨c,0,none⟩)] w (Said ((Zbh es x).any fun f=>f.name == n) w):=by
 have hmf:∀ (fn:Fn) (first cap:Array Value) (w:World),(Instr.makeFunc fn first cap).run Tryz.prog w=.ok (.func fn first cap) w:=fun _ _ _ _=>rfl
 obtain ⟨e,he⟩:∃ e,es[x]? = some e:=⟨_,Yaa hx⟩
 obtain ⟨lv,fv,mv,sv,hb,_,h2,_,_⟩:=(hT.below hw).ent x e he;have hfa:Zbh es x=e.cls.flds:=by unfold Zbh;rw [he]
 have c7:w.cell? ⟨B x,7,none⟩=some fv:=hb.cell 7 rfl;have HC:=Hd (ZdA (A:=A) 173 #[.pointer (some ⟨c,0,none⟩)] (fun f=>f.name == n) e.cls.flds fv w (Zai Tryz.func173 (by kernel_rfl) rfl) h2 (fun k y v w' _ hw' hv=>by
  obtain rfl:=hv;exact Zmg ((Yad (S:=fun _=>False) hw').cell h id)) (by have:=hfl x e he;omega))
 obtain ⟨fo,fc,rfl⟩:=h2.shape;rw [hfa];generalize (e.cls.flds.any fun f=>f.name == n)=r at HC ⊢;generalize e.cls.flds.length=k at HC c7;clear hT hfl he hb h2 hfa h hx;go_enter Tryz.func172,Tryz.ntmps172
 go_wp2_with fail
 refine HC.o.mono ?_;rintro e w1 ⟨rfl,hb1⟩;have HB1:=Hd hb1;clear hb1 HC c7;go_wp2;go_ret;exact ⟨rfl,HB1.o⟩
theorem Zhn {A:Nat->Prop} {B:Nat->Nat} {T mb:Nat} {es:List Ent} {w0:World} (hT:Tab A w0 T mb B es) (hS:Shape es) (o:Option Nat) (ho:∀ i,o=some i->i<es.length) (n:List UInt8) (w:World) (hw:Below w0.heap.size w0 w) :
  Calls Tryz.prog 113 #[ptrV B o,.string (S n)] w (Said (hasF es o n) w):=by
 have hmf:∀ (fn:Fn) (first cap:Array Value) (w:World),(Instr.makeFunc fn first cap).run Tryz.prog w=.ok (.func fn first cap) w:=fun _ _ _ _=>rfl
 have hb1:Below w.heap.size w (w.alloc (.cells #[.string (S n)] 9)):=Zaa (Yab _ _) _;have hc:=hS.line o ho;have HL:=Hd (ZmN hT 172 #[.pointer (some ⟨w.heap.size,0,none⟩)] (Zai Tryz.func172 (by kernel_rfl) rfl) (Zap es o) o hc (fun x=>(Zbh es x).any fun f=>f.name == n) _ (hw.trans (hb1.mono hw.size)) (fun x w' hx hw'=>by
  obtain ⟨e,he⟩:=Zbt hc x hx;exact Zmf hT hS.fl x (Yag.1 he).1 n w.heap.size w' (hw.trans ((hb1.trans (hw'.mono hb1.size)).mono hw.size)) (((Box.new w #[.string (S n)] 9).below hw').cell 0 rfl)))
 have HB1:=Hd hb1;rw [show (Zap es o).any (fun x=>(Zbh es x).any fun f=>f.name == n)=hasF es o n from rfl] at HL;generalize hasF es o n=r at HL ⊢;generalize ptrV B o=vo at HL ⊢;clear hT hS ho hw hb1 hc;go_enter Tryz.func113,Tryz.ntmps113
 go_wp2_with fail
 refine HL.o.mono ?_;rintro e w1 ⟨rfl,hb2⟩;have HB2:=Hd (HB1.o.trans (hb2.mono HB1.o.size));clear hb2 HL HB1;go_wp2;go_ret;exact ⟨rfl,HB2.o⟩
def ZcB (es:List Ent) (c:Cls):Bool:=!(c.flds.any fun f=>!ZbY es f.kind) && !(c.mths.any fun m=>m.params.any (fun s=>!ZbY es s) || (!decide (m.res=[]) && !ZbY es m.res))
theorem Zfk {A:Nat->Prop} {B:Nat->Nat} {T mb:Nat} {es:List Ent} {w0:World} (hT:Tab A w0 T mb B es) (s:List UInt8) (c:Nat) (w:World) (hw:Below w0.heap.size w0 w) (hs:s.length<=9223372036854775807) (h:w.cell? ⟨c,0,none⟩=some (.pointer (some ⟨T,0,none⟩))) :
  Calls Tryz.prog 174 #[.string (S s),.pointer (some ⟨c,0,none⟩)] w (Said (!ZbY es s) w):=by
 have HD:=Hd (Zgj hT s w hw hs);generalize ZbY es s=r at HD ⊢;clear hT hw hs;go_enter Tryz.func174,Tryz.ntmps174
 go_wp2_with fail
 refine HD.o.mono ?_;rintro e w1 ⟨rfl,hb1⟩;have HB1:=Hd hb1;clear hb1 HD h;go_wp2;go_ret;exact ⟨rfl,HB1.o⟩
abbrev Zfj (bt:Nat):Value:=.func (.func 174) #[] #[.pointer (some ⟨bt,0,none⟩)]
theorem ZlX {A:Nat->Prop} {B:Nat->Nat} {T mb:Nat} {es:List Ent} {w0:World} (hT:Tab A w0 T mb B es) (f:Fld) (bt bm:Nat) (w:World) (hw:Below w0.heap.size w0 w) (hs:f.kind.length<=9223372036854775807) (h:w.cell? ⟨bt,0,none⟩=some (.pointer (some ⟨T,0,none⟩))) (hm:w.cell? ⟨bm,0,none⟩=some (Zfj bt)) :
  Calls Tryz.prog 175 #[fldV f,.pointer (some ⟨bm,0,none⟩)] w (Said (!ZbY es f.kind) w):=by
 have he:∀ args w,(callFunc 174 args).run Tryz.prog w=.ok (.enter 174 args) w:=Zai Tryz.func174 (by kernel_rfl) rfl
 have hcA:∀ o:Obj,(w.alloc o).cell? ⟨bm,0,none⟩=some (Zfj bt):=fun o=>((Yan (fun _=>False) w).alloc o).cell hm id
 have HF:Hid (∀ o:Obj,Calls Tryz.prog 174 #[.string (S f.kind),.pointer (some ⟨bt,0,none⟩)] (w.alloc o) (Said (!ZbY es f.kind) (w.alloc o))):=Hd (fun o=>
  Zfk hT f.kind bt _ (Zaa hw o) hs (((Yan (fun _=>False) w).alloc o).cell h id))
 generalize (!ZbY es f.kind)=r at HF ⊢;clear hT hw hs h hm;go_enter Tryz.func175,Tryz.ntmps175
 go_wp2_with fail
 refine (HF.o _).mono ?_;rintro e w1 ⟨rfl,hb1⟩;have HB1:=Hd (((Yab _ w).alloc (Yac _) _).trans (hb1.mono (by simp)));clear hb1 HF hcA he;go_wp2;go_ret;exact ⟨rfl,HB1.o⟩
def Zkt (es:List Ent) (m:Mth):Bool:=m.params.any (fun s=>!ZbY es s) || (!decide (m.res=[]) && !ZbY es m.res)
theorem ZlY {A A':Nat->Prop} {B:Nat->Nat} {T mb:Nat} {es:List Ent} {w0:World} (hT:Tab A w0 T mb B es) (m:Mth) (v:Value) (bt bm:Nat) (w:World) (hw:Below w0.heap.size w0 w) (hv:MthR A' w m v) (hfit:m.Fit) (h:w.cell? ⟨bt,0,none⟩=some (.pointer (some ⟨T,0,none⟩))) (hm:w.cell? ⟨bm,0,none⟩=some (Zfj bt)) :
  Calls Tryz.prog 176 #[v,.pointer (some ⟨bm,0,none⟩)] w (Said (Zkt es m) w):=by
 have he:∀ args w,(callFunc 174 args).run Tryz.prog w=.ok (.enter 174 args) w:=Zai Tryz.func174 (by kernel_rfl) rfl
 obtain ⟨pv,cv,kv,rfl,hp,hcd,hkt⟩:=hv;obtain ⟨po,pc,rfl⟩:=hp.shape;obtain ⟨co,cc,rfl⟩:=hcd.shape;obtain ⟨ko,kc,rfl⟩:=hkt.shape;have hb0:Below w.heap.size w (w.alloc (.cells #[.string (S m.name),.slice po m.params.length pc,.string (S m.res),.bool m.abs,.int .i64 m.loc,.slice co m.code.length cc,.slice ko m.cats.length kc] 44)):=(Yab _ w).alloc (Yac _) _;have HB0:=Hd hb0;have HBX:=Hd (Box.new w #[.string (S m.name),.slice po m.params.length pc,.string (S m.res),.bool m.abs,.int .i64 m.loc,.slice co m.code.length cc,.slice ko m.cats.length kc] 44);have hm0:=(Yad (S:=fun _=>False) hb0).cell hm id;have HMS:Hid (∀ W s,Below w.heap.size w W->ZaA s->Calls Tryz.prog 174 #[.string (S s),.pointer (some ⟨bt,0,none⟩)] W (Said (!ZbY es s) W)):=Hd (fun W s hW hs=>
  Zfk hT s bt W (hw.trans (hW.mono hw.size)) hs ((Yad (S:=fun _=>False) hW).cell h id))
 have HC:Hid (Calls Tryz.prog 177 #[.slice po m.params.length pc,Zfj bt] (w.alloc (.cells #[.string (S m.name),.slice po m.params.length pc,.string (S m.res),.bool m.abs,.int .i64 m.loc,.slice co m.code.length cc,.slice ko m.cats.length kc] 44)) (Said (m.params.any fun s=>!ZbY es s) (w.alloc (.cells #[.string (S m.name),.slice po m.params.length pc,.string (S m.res),.bool m.abs,.int .i64 m.loc,.slice co m.code.length cc,.slice ko m.cats.length kc] 44)))):=Hd (
  ZeX (A:=A') 174 #[.pointer (some ⟨bt,0,none⟩)] (fun s=>!ZbY es s) m.params _ _ he (StrR.st.below hp hb0) (fun k x u w' hx hb' hu=>by
   obtain rfl:=hu;exact HMS.o w' x (hb0.trans (hb'.mono hb0.size)) (hfit.params x (Yaf hx))) hfit.n1)
 have HR:Hid (∀ W,Below w.heap.size w W->Calls Tryz.prog 174 #[.string (S m.res),.pointer (some ⟨bt,0,none⟩)] W (Said (!ZbY es m.res) W)):=Hd (fun W hW=>HMS.o W m.res hW hfit.res);have HM:Hid (∀ W,Below (w.alloc (.cells #[.string (S m.name),.slice po m.params.length pc,.string (S m.res),.bool m.abs,.int .i64 m.loc,.slice co m.code.length cc,.slice ko m.cats.length kc] 44)).heap.size (w.alloc (.cells #[.string (S m.name),.slice po m.params.length pc,.string (S m.res),.bool m.abs,.int .i64 m.loc,.slice co m.code.length cc,.slice ko m.cats.length kc] 44)) W->W.cell? ⟨bm,0,none⟩=some (Zfj bt)):=Hd (fun W hW=>(Yad (S:=fun _=>False) hW).cell hm0 id);unfold Zkt;generalize (m.params.any fun s=>!ZbY es s)=a1 at HC ⊢;generalize (!ZbY es m.res)=a2 at HR ⊢;have e0:=Zae m.res;clear hp hcd hkt hfit hb0 HMS hT hw h hm;have c1:=HBX.o.cell 1 rfl;go_enter Tryz.func176,Tryz.ntmps176
 go_wp2_with fail
 refine HC.o.mono ?_;rintro e w1 ⟨rfl,hb1⟩;have HB1:=Hd hb1;have HC1:=Hd (HB0.o.trans (hb1.mono HB0.o.size));have c2:=(HBX.o.below hb1).cell 2 rfl;have d2:=HM.o w1 hb1;clear hb1 c1 hm0;cases a1
 case true=>
  go_wp2;go_ret;exact ⟨rfl,HC1.o⟩
 case false=>
  by_cases hres:m.res=[]
  ·rw [hres] at c2 e0;go_wp2;go_ret;exact ⟨by simp [hres],HC1.o⟩
  ·have hE:m.res.isEmpty=false:=by simp [hres]
   go_wp2_with fail
   refine (HR.o _ HC1.o).mono ?_;rintro e w2 ⟨rfl,hb2⟩;have HC2:=Hd (HC1.o.trans (hb2.mono HC1.o.size));clear hb2 c2 d2;go_wp2;go_ret;exact ⟨by simp [hres],HC2.o⟩
theorem Zio {A A':Nat->Prop} {B:Nat->Nat} {T mb:Nat} {es:List Ent} {w0:World} (hT:Tab A w0 T mb B es) (c:Cls) (v:Value) (w:World) (hw:Below w0.heap.size w0 w) (hv:ClsR A' w c v) (hfit:c.Fit) :
  Calls Tryz.prog 114 #[.pointer (some ⟨T,0,none⟩),v] w (Said (ZcB es c) w):=by
 have hmf:∀ (fn:Fn) (first cap:Array Value) (w:World),(Instr.makeFunc fn first cap).run Tryz.prog w=.ok (.func fn first cap) w:=fun _ _ _ _=>rfl
 have he2:∀ args w,(callFunc 175 args).run Tryz.prog w=.ok (.enter 175 args) w:=Zai Tryz.func175 (by kernel_rfl) rfl
 have he3:∀ args w,(callFunc 176 args).run Tryz.prog w=.ok (.enter 176 args) w:=Zai Tryz.func176 (by kernel_rfl) rfl
 obtain ⟨lv,fv,mv,rfl,hl,hf,hm⟩:=hv;obtain ⟨lo,lc,rfl⟩:=hl.shape;obtain ⟨fo,fc,rfl⟩:=hf.shape;obtain ⟨mo,mc,rfl⟩:=hm.shape;have HFL:Hid (∀ W bt bm,Below w.heap.size w W->W.cell? ⟨bt,0,none⟩=some (.pointer (some ⟨T,0,none⟩))->W.cell? ⟨bm,0,none⟩=some (Zfj bt)->Calls Tryz.prog 111 #[.slice fo c.flds.length fc,.func (.func 175) #[] #[.pointer (some ⟨bm,0,none⟩)]] W (Said (c.flds.any fun f=>!ZbY es f.kind) W)):=Hd (fun W bt bm hW ht hmm=>
  ZdA (A:=A') _ _ (fun f=>!ZbY es f.kind) c.flds _ W he2 (FldR.st.below hf hW) (fun k f u w' hk hw' hu=>by
   obtain rfl:=hu;have ho:=Yad (S:=fun _=>False) hw';exact ZlX hT f bt bm w' (hw.trans ((hW.trans (hw'.mono hW.size)).mono hw.size)) (hfit.flds f (Yaf hk)).2 (ho.cell ht id) (ho.cell hmm id)) hfit.n2)
 have HMT:Hid (∀ W bt bm,Below w.heap.size w W->W.cell? ⟨bt,0,none⟩=some (.pointer (some ⟨T,0,none⟩))->W.cell? ⟨bm,0,none⟩=some (Zfj bt)->Calls Tryz.prog 146 #[.slice mo c.mths.length mc,.func (.func 176) #[] #[.pointer (some ⟨bm,0,none⟩)]] W (Said (c.mths.any (Zkt es)) W)):=Hd (fun W bt bm hW ht hmm=>
  Zc8 (A:=A') _ _ (Zkt es) c.mths _ W he3 (MthR.st.below hm hW) (fun k f u w' hk hw' hu=>by
   have ho:=Yad (S:=fun _=>False) hw';exact ZlY hT f u bt bm w' (hw.trans ((hW.trans (hw'.mono hW.size)).mono hw.size)) hu (hfit.mths f (Yaf hk)) (ho.cell ht id) (ho.cell hmm id)) hfit.n3)
 have hd:ZcB es c=(!(c.flds.any fun f=>!ZbY es f.kind) && !(c.mths.any (Zkt es))):=rfl;rw [hd];generalize (c.flds.any fun f=>!ZbY es f.kind)=a1 at HFL ⊢;generalize c.mths.any (Zkt es)=a2 at HMT ⊢;have s1:(w.alloc (.cells #[.pointer (some ⟨T,0,none⟩)] 25)).heap.size=w.heap.size+1:=by simp
 have s2:((w.alloc (.cells #[.pointer (some ⟨T,0,none⟩)] 25)).alloc (.cells #[.string (S c.name),.string (S c.sup),.slice lo c.like.length lc,.bool c.itf,.bool c.abs,.bool c.fin,.slice fo c.flds.length fc,.slice mo c.mths.length mc] 87)).heap.size=w.heap.size+1+1:=by simp
 have hbe:Below w.heap.size w ((w.alloc (.cells #[.pointer (some ⟨T,0,none⟩)] 25)).alloc (.cells #[.string (S c.name),.string (S c.sup),.slice lo c.like.length lc,.bool c.itf,.bool c.abs,.bool c.fin,.slice fo c.flds.length fc,.slice mo c.mths.length mc] 87)):=Zaa (Zaa (Yab _ _) _) _;have xt:=(Box.new w #[.pointer (some ⟨T,0,none⟩)] 25).below (Zaa (Yab _ _) (.cells #[.string (S c.name),.string (S c.sup),.slice lo c.like.length lc,.bool c.itf,.bool c.abs,.bool c.fin,.slice fo c.flds.length fc,.slice mo c.mths.length mc] 87));have xc:=Box.new (w.alloc (.cells #[.pointer (some ⟨T,0,none⟩)] 25)) #[.string (S c.name),.string (S c.sup),.slice lo c.like.length lc,.bool c.itf,.bool c.abs,.bool c.fin,.slice fo c.flds.length fc,.slice mo c.mths.length mc] 87;rw [s1] at xc;have HS2:=Hd s2;have HBE:=Hd hbe;have XT:=Hd xt;have XC:=Hd xc;clear hT hw hl hf hm hfit hd s1 s2 hbe xt xc;go_enter Tryz.func114,Tryz.ntmps114
 go_upto_region 1 with fail
 generalize (w.alloc (.cells #[.pointer (some ⟨T,0,none⟩)] 25)).alloc (.cells #[.string (S c.name),.string (S c.sup),.slice lo c.like.length lc,.bool c.itf,.bool c.abs,.bool c.fin,.slice fo c.flds.length fc,.slice mo c.mths.length mc] 87)=W2 at HS2 HBE XT XC ⊢;have hfin:(fun W=>Below w.heap.size w W/\W.cell? ⟨w.heap.size,0,none⟩=some (.pointer (some ⟨T,0,none⟩))/\Box W (w.heap.size+1) #[.string (S c.name),.string (S c.sup),.slice lo c.like.length lc,.bool c.itf,.bool c.abs,.bool c.fin,.slice fo c.flds.length fc,.slice mo c.mths.length mc] 87/\W.cell? ⟨W2.heap.size,0,none⟩=some (Zfj w.heap.size)) (W2.alloc (.cells #[Zfj w.heap.size] 54)):=by
  exact ⟨Zaa HBE.o _,(XT.o.below (Zaa (Yab _ _) _)).cell 0 rfl,XC.o.below (Zaa (Yab _ _) _),(Box.new W2 #[Zfj w.heap.size] 54).cell 0 rfl⟩
 have HFIN:=Hd hfin;clear hfin
 go_upto_region 2 with fail
 refine Zav (fun W=>Below w.heap.size w W/\W.cell? ⟨w.heap.size,0,none⟩=some (.pointer (some ⟨T,0,none⟩))/\Box W (w.heap.size+1) #[.string (S c.name),.string (S c.sup),.slice lo c.like.length lc,.bool c.itf,.bool c.abs,.bool c.fin,.slice fo c.flds.length fc,.slice mo c.mths.length mc] 87/\W.cell? ⟨W2.heap.size,0,none⟩=some (Zfj w.heap.size)) HFIN.o ?_;rintro W0 ⟨hb0,ht0,hx0,hm0⟩;have HB0:=Hd hb0;have HT0:=Hd ht0;have HX0:=Hd hx0;have HM0:=Hd hm0;have q6:=hx0.cell 6 rfl;have HC1:=Hd (HFL.o W0 _ _ hb0 ht0 hm0);generalize W2.heap.size=bm at HM0 HC1 HS2 ⊢;clear hb0 ht0 hx0 hm0 HFL HS2 HBE XT XC
 go_wp2_with fail
 refine HC1.o.mono ?_;rintro e w1 ⟨rfl,hb1⟩;have HB1:=Hd (HB0.o.trans (hb1.mono HB0.o.size));have ho:=Yad (S:=fun _=>False) hb1;have q7:=(HX0.o.below hb1).cell 7 rfl;have HC2:=Hd (HMT.o w1 _ _ HB1.o (ho.cell HT0.o id) (ho.cell HM0.o id));clear hb1 ho q6 HC1 HMT;cases a1
 case true=>
  go_wp2;go_ret;exact ⟨rfl,HB1.o⟩
 case false=>
  go_wp2_with fail
  refine HC2.o.mono ?_;rintro e w2 ⟨rfl,hb2⟩;have HB2:=Hd (HB1.o.trans (hb2.mono HB1.o.size));clear hb2 q7 HC2;go_wp2;go_ret;exact ⟨rfl,HB2.o⟩
def ZdR (es:List Ent) (x:Nat):Bool:=(Zbh es x).any fun f=>hasF es (upAt es x) f.name
def ZeV (es:List Ent) (x:Nat):Cls:=match es[x]? with|some e=>e.cls|none=>objC
theorem Zgh {es:List Ent} {x:Nat} {e:Ent} (h:es[x]? = some e):ZeV es x=e.cls:=by unfold ZeV;rw [h]
def chkT (es:List Ent) (x:Nat):Nat:=if ZdR es x=true then 64 else if ZcB es (ZeV es x)=false then 65 else if ZaL es x=true then 66 else if Zb0 es x=true then 67 else 0
theorem Zob {A:Nat->Prop} {B:Nat->Nat} {T mb:Nat} {es:List Ent} {w0:World} (hT:Tab A w0 T mb B es) (hS:Shape es) (hu:Zc3 es) (x:Nat) (hx:x<es.length) (f:Fld) (c:Nat) (w:World) (hw:Below w0.heap.size w0 w) (h:w.cell? ⟨c,0,none⟩=some (entV B x)) :
  Calls Tryz.prog 112 #[fldV f,.pointer (some ⟨c,0,none⟩)] w (Said (hasF es (upAt es x) f.name) w):=by
 obtain ⟨e,he⟩:∃ e,es[x]? = some e:=⟨_,Yaa hx⟩
 have hb0:Below w.heap.size w (w.alloc (.cells #[.string (S f.name),.string (S f.kind),.bool f.tr] 99)):=Zaa (Yab _ _) _;obtain ⟨W0,hW0⟩:∃ W0,W0=w.alloc (.cells #[.string (S f.name),.string (S f.kind),.bool f.tr] 99):=⟨_,rfl⟩
 have xf:=Box.new w #[.string (S f.name),.string (S f.kind),.bool f.tr] 99;rw [←hW0] at hb0 xf;rw [Zci he];obtain ⟨q,hq⟩:=ZdI B e.up;have HC:Hid (∀ X,Below W0.heap.size W0 X->Calls Tryz.prog 113 #[.pointer q,.string (S f.name)] X (Said (hasF es e.up f.name) X)):=Hd (fun X hX=>by
  rw [←hq];exact Zhn hT hS e.up (fun j hj=>hu x j (ZbG he hj)) f.name X (hw.trans ((hb0.trans (hX.mono hb0.size)).mono hw.size)))
 have HS:Hid (∀ X,Below W0.heap.size W0 X->X.cell? ⟨c,0,none⟩=some (entV B x)/\X.cell? ⟨B x,9,none⟩=some (.pointer q)/\X.cell? ⟨w.heap.size,0,none⟩=some (.string (S f.name))):=Hd (fun X hX=>by
  have hbX:=hb0.trans (hX.mono hb0.size);obtain ⟨_,_,_,_,hb,_⟩:=(hT.below (hw.trans (hbX.mono hw.size))).ent x e he;have c9:=hb.cell 9 rfl;exact ⟨(Yad (S:=fun _=>False) hbX).cell h id,by rw [←hq];exact c9,(xf.below hX).cell 0 rfl⟩)
 generalize hasF es e.up f.name=r at HC ⊢;have h0:Below W0.heap.size W0 W0:=Yab _ _;obtain ⟨g1,g2,g3⟩:=HS.o _ h0;have HB0:=Hd hb0;clear hT hS hu hx hw h he hq xf hb0;go_enter Tryz.func112,Tryz.ntmps112
 go_upto_region 1 with fail
 rw [←hW0];clear hW0;first
 | (go_region_held (fun X=>X.cell? ⟨c,0,none⟩=some (entV B x)/\X.cell? ⟨B x,9,none⟩=some (.pointer q)/\X.cell? ⟨w.heap.size,0,none⟩=some (.string (S f.name))) ((refine HS.o _ ?_;(repeat (first|(with_reducible exact Yab _ _)|(with_reducible (apply Zac;rotate_left;assumption))|(with_reducible refine Zab ?_)))))
   (first|((with_reducible refine (HC.o _ ?_).mono ?_);(focus ((repeat (first|(with_reducible exact Yab _ _)|(with_reducible assumption)|(with_reducible refine Zab ?_)));done));rintro e1 w1 ⟨rfl,hb1⟩)))
 | fail
 have hb2:Below W0.heap.size W0 w1:=(by first|exact Zac h0 hb1|exact Zac (Zab h0) hb1|exact Zac (Zab (Zab h0)) hb1);have HB2:=Hd (HB0.o.trans (hb2.mono HB0.o.size));clear hb1 hb2 HC HS g1 g2 g3 h0;go_wp2;go_ret;exact ⟨rfl,HB2.o⟩
theorem ZpF {A:Nat->Prop} {B:Nat->Nat} {T mb:Nat} {es:List Ent} {w0:World} (hT:Tab A w0 T mb B es) (hS:Shape es) (hu:Zc3 es) (hml:∀ i,(Zar es i).length<=32) (hg:Zgb es) (hfit:∀ i,(ZeV es i).Fit) (x:Nat) (hx:x<es.length) (w:World) (hw:Below w0.heap.size w0 w) :
  Calls Tryz.prog 50 #[.pointer (some ⟨T,0,none⟩),entV B x] w (fun e w'=>e=.returned (.int .i64 (chkT es x:Nat))/\Below w.heap.size w w'):=by
 have hmf:∀ (fn:Fn) (first cap:Array Value) (w:World),(Instr.makeFunc fn first cap).run Tryz.prog w=.ok (.func fn first cap) w:=fun _ _ _ _=>rfl
 obtain ⟨e,he⟩:∃ e,es[x]? = some e:=⟨_,Yaa hx⟩
 obtain ⟨lv,fv,mv,sv,hbx,hl,hf,hm,_⟩:=hT.ent x e he;obtain ⟨lo,lc,rfl⟩:=hl.shape;obtain ⟨fo,fc,rfl⟩:=hf.shape;obtain ⟨mo,mc,rfl⟩:=hm.shape;have hcl:=Zgh he;have hfa:Zbh es x=e.cls.flds:=by unfold Zbh;rw [he]
 have hb0:Below w.heap.size w (w.alloc (.cells #[entV B x] 94)):=Zaa (Yab _ _) _;obtain ⟨W0,hW0⟩:∃ W0,W0=w.alloc (.cells #[entV B x] 94):=⟨_,rfl⟩
 have xc:=Box.new w #[entV B x] 94;rw [←hW0] at xc hb0;have HW:∀ X,Below W0.heap.size W0 X->Below w0.heap.size w0 X:=fun X hX=>hw.trans ((hb0.trans (hX.mono hb0.size)).mono hw.size)
 have HX:Hid (∀ X,Below W0.heap.size W0 X->X.cell? ⟨w.heap.size,0,none⟩=some (entV B x)/\Box X (B x) (entC B x e (.slice lo e.cls.like.length lc) (.slice fo e.cls.flds.length fc) (.slice mo e.cls.mths.length mc) sv) 97):=Hd (fun X hX=>⟨(xc.below hX).cell 0 rfl,hbx.below (HW X hX)⟩);have HF:Hid (∀ X,Below W0.heap.size W0 X->Calls Tryz.prog 111 #[.slice fo e.cls.flds.length fc,.func (.func 112) #[] #[.pointer (some ⟨w.heap.size,0,none⟩)]] X (Said (ZdR es x) X)):=Hd (fun X hX=>by
  unfold ZdR;rw [hfa];refine ZdA (A:=A) _ _ (fun f=>hasF es (upAt es x) f.name) e.cls.flds _ X (Zai Tryz.func112 (by kernel_rfl) rfl) (FldR.st.below hf (HW X hX)) (fun k f u w' hk hw' hu2=>?_) (by have:=hS.fl x e he;omega);obtain rfl:=hu2;have hX2:=hX.trans (hw'.mono hX.size);exact Zob hT hS hu x hx f w.heap.size w' (HW w' hX2) ((xc.below hX2).cell 0 rfl))
 have HD:Hid (∀ X,Below W0.heap.size W0 X->Calls Tryz.prog 114 #[.pointer (some ⟨T,0,none⟩),.agg #[.string (S e.cls.name),.string (S e.cls.sup),.slice lo e.cls.like.length lc,.bool e.cls.itf,.bool e.cls.abs,.bool e.cls.fin,.slice fo e.cls.flds.length fc,.slice mo e.cls.mths.length mc]] X (Said (ZcB es (ZeV es x)) X)):=Hd (fun X hX=>by
  rw [hcl];have hv:ClsR A w0 e.cls (.agg #[.string (S e.cls.name),.string (S e.cls.sup),.slice lo e.cls.like.length lc,.bool e.cls.itf,.bool e.cls.abs,.bool e.cls.fin,.slice fo e.cls.flds.length fc,.slice mo e.cls.mths.length mc]):=⟨_,_,_,rfl,hl,hf,hm⟩;exact Zio hT e.cls _ X (HW X hX) (Zb3 hv (HW X hX)) (by have:=hfit x;rwa [hcl] at this))
 have HDF:Hid (∀ X,Below W0.heap.size W0 X->Calls Tryz.prog 115 #[entV B x] X (Said (ZaL es x) X)):=Hd (fun X hX=>Zir hT hS hu hml hg x hx X (HW X hX));have HLK:Hid (∀ X,Below W0.heap.size W0 X->Calls Tryz.prog 116 #[entV B x] X (Said (Zb0 es x) X)):=Hd (fun X hX=>ZmL hT hS hu (fun i=>by have:=hml i;omega) x hx X (HW X hX));obtain ⟨R,hR⟩:∃ R,R=chkT es x:=⟨_,rfl⟩
 rw [←hR];unfold chkT at hR;generalize ZdR es x=a1 at HF hR;generalize ZcB es (ZeV es x)=a2 at HD hR;generalize ZaL es x=a3 at HDF hR;generalize Zb0 es x=a4 at HLK hR;have HR:=Hd hR;have HB0:=Hd hb0;clear hT hS hu hml hg hfit hx hw he hbx hl hf hm hcl hfa hb0 xc HW hR;go_enter Tryz.func50,Tryz.ntmps50
 go_upto_region 1 with fail
 rw [←hW0];clear hW0;obtain ⟨p0,xb⟩:=HX.o _ (Yab _ _);have q7:W0.cell? ⟨B x,7,none⟩=some (.slice fo e.cls.flds.length fc):=xb.cell 7 rfl;clear xb
 go_wp2_with fail
 with_reducible refine (HF.o _ (Yab _ _)).mono ?_
 rintro e1 w1 ⟨rfl,hb1⟩;have HB1:=Hd hb1;have HE1:=Hd (HB0.o.trans (hb1.mono HB0.o.size));clear hb1 p0 q7 HF;cases a1 with
 | true=>
  have hr:R=64:=HR.o;clear HD HDF HLK HR HX;go_wp2;go_ret;exact ⟨by rw [hr];rfl,HE1.o⟩
 | false=>
  obtain ⟨p0,xb⟩:=HX.o _ HB1.o;have q1:w1.cell? ⟨B x,1,none⟩=some (.string (S e.cls.name)):=xb.cell 1 rfl;have q2:w1.cell? ⟨B x,2,none⟩=some (.string (S e.cls.sup)):=xb.cell 2 rfl;have q3:w1.cell? ⟨B x,3,none⟩=some (.slice lo e.cls.like.length lc):=xb.cell 3 rfl;have q4:w1.cell? ⟨B x,4,none⟩=some (.bool e.cls.itf):=xb.cell 4 rfl;have q5:w1.cell? ⟨B x,5,none⟩=some (.bool e.cls.abs):=xb.cell 5 rfl;have q6:w1.cell? ⟨B x,6,none⟩=some (.bool e.cls.fin):=xb.cell 6 rfl;have q7:w1.cell? ⟨B x,7,none⟩=some (.slice fo e.cls.flds.length fc):=xb.cell 7 rfl;have q8:w1.cell? ⟨B x,8,none⟩=some (.slice mo e.cls.mths.length mc):=xb.cell 8 rfl;clear xb
  go_wp2_with fail
  with_reducible refine (HD.o _ HB1.o).mono ?_
  rintro e2 w2 ⟨rfl,hb2⟩;have HB2:=Hd (HB1.o.trans (hb2.mono HB1.o.size));have HE2:=Hd (HE1.o.trans (hb2.mono HE1.o.size));clear hb2 p0 q1 q2 q3 q4 q5 q6 q7 q8 HD;cases a2 with
  | false=>
   have hr:R=65:=HR.o;clear HDF HLK HR HX;go_wp2;go_ret;exact ⟨by rw [hr];rfl,HE2.o⟩
  | true=>
   obtain ⟨p0,xb⟩:=HX.o _ HB2.o;clear xb
   go_wp2_with fail
   with_reducible refine (HDF.o _ HB2.o).mono ?_
   rintro e3 w3 ⟨rfl,hb3⟩;have HB3:=Hd (HB2.o.trans (hb3.mono HB2.o.size));have HE3:=Hd (HE2.o.trans (hb3.mono HE2.o.size));clear hb3 p0 HDF;cases a3 with
   | true=>
    have hr:R=66:=HR.o;clear HLK HR HX;go_wp2;go_ret;exact ⟨by rw [hr];rfl,HE3.o⟩
   | false=>
    obtain ⟨p0,xb⟩:=HX.o _ HB3.o;clear xb
    go_wp2_with fail
    with_reducible refine (HLK.o _ HB3.o).mono ?_
    rintro e4 w4 ⟨rfl,hb4⟩;have HE4:=Hd (HE3.o.trans (hb4.mono HE3.o.size));clear hb4 p0 HLK HX;cases a4 with
    | true=>
     have hr:R=67:=HR.o;clear HR;go_wp2;go_ret;exact ⟨by rw [hr];rfl,HE4.o⟩
    | false=>
     have hr:R=0:=HR.o;clear HR;go_wp2;go_ret;exact ⟨by rw [hr];rfl,HE4.o⟩
structure GrF (gb gm gl:Nat) (ov0:Value) (W0:World) (ov:Value) (W:World):Prop where
 only:Only (fun k=>k=gb\/k=gm\/k=gl\/ov0.ownBlock=some k) W0 W
 came:ov.ownBlock=ov0.ownBlock\/∀ g,ov.ownBlock=some g->W0.heap.size<=g
theorem GrF.trans {gb gm gl:Nat} {ov0 ov1 ov2:Value} {W0 W1 W2:World} (h:GrF gb gm gl ov0 W0 ov1 W1) (k:GrF gb gm gl ov1 W1 ov2 W2):GrF gb gm gl ov0 W0 ov2 W2:=by
 refine ⟨h.only.then k.only (fun i hi q=>?_),?_⟩
 ·rcases q with q|q|q|q
  ·exact .inl q
  ·exact .inr (.inl q)
  ·exact .inr (.inr (.inl q))
  ·rcases h.came with e|e
   ·exact .inr (.inr (.inr (e ▸ q)))
   ·have:=e i q;omega
 ·rcases k.came with e|e
  ·rw [e];exact h.came
  ·exact .inr (fun g hg=>Yaq h.only.size (e g hg))
def ZnZ (B:Nat->Nat) (w0:World) (gb gm gl lo n:Nat) (ov0:Value) (W0:World) (t:Grp × Nat) (e:Ending) (w':World):Prop:=
 e=.returned (.int .i64 (t.2:Nat))/\∃ ov us,Gr B w0 gb gm gl lo n t.1 ov us w'/\GrF gb gm gl ov0 W0 ov w'
structure Mt (B:Nat->Nat) (w0:World) (gb gm gl lo n b2 b7:Nat) (ov0:Value) (W0:World) (t:Grp × Nat) (ov:Value) (us:List Value) (W:World):Prop where
 gr:Gr B w0 gb gm gl lo n t.1 ov us W
 box2:Box W b2 #[.pointer (some ⟨gb,0,none⟩)] 117
 box7:Box W b7 #[.int .i64 (t.2:Nat)] 3
 own2:ov.ownBlock ≠ some b2
 own7:ov.ownBlock ≠ some b7
 fr:GrF gb gm gl ov0 W0 ov W
structure MtS (lo b2 b7:Nat) (W0:World):Prop where
 l2:lo<=b2
 l7:lo<=b7
 n27:b2 ≠ b7
 s2:W0.heap.size<=b2
 s7:W0.heap.size<=b7
theorem Mt.drew {B:Nat->Nat} {w0:World} {gb gm gl lo n b2 b7:Nat} {ov0:Value} {W0:World} {t:Grp × Nat} {ov:Value} {us:List Value} {W:World} (h:Mt B w0 gb gm gl lo n b2 b7 ov0 W0 t ov us W):Mt B w0 gb gm gl lo n b2 b7 ov0 W0 t ov us W.drew:=by
 have hb:Below W.heap.size W W.drew:=Zab (Yab _ _);exact ⟨h.gr.drew,h.box2.below hb,h.box7.below hb,h.own2,h.own7,⟨h.fr.only.drew,h.fr.came⟩⟩
theorem Mt.least {B:Nat->Nat} {w0:World} {gb gm gl lo n b2 b7:Nat} {ov0:Value} {W0:World} {t:Grp × Nat} {ov:Value} {us:List Value} {W:World} (h:Mt B w0 gb gm gl lo n b2 b7 ov0 W0 t ov us W) (q:GrS w0.heap.size gb gm gl lo) (r:MtS lo b2 b7 W0) (z:Nat) :
  Mt B w0 gb gm gl lo n b2 b7 ov0 W0 (t.1,z) ov us (W.setCell ⟨b7,0,none⟩ (.int .i64 (z:Nat))):=by
 have ho:Only (fun k=>k=b7) W (W.setCell ⟨b7,0,none⟩ (.int .i64 (z:Nat))):=(Yan (fun k=>k=b7) W).setCell (p:=⟨b7,0,none⟩) rfl _;have h1:=q.ub;have h2:=q.um;have h3:=q.ul;have h4:=r.l7;have h5:=q.lb;have h6:=r.s7;refine ⟨⟨h.gr.box.keep ho (fun e=>by omega),h.gr.met.keep ho (fun e=>by omega),h.gr.loop.keep ho (fun e=>by omega),?_,h.gr.bel.trans (ho.below h.gr.bel.size (fun k (e:k=b7)=>by omega)),Yaq h.gr.low ho.size⟩,
  h.box2.keep ho r.n27,h.box7.set 0 _,h.own2,h.own7,⟨h.fr.only.then ho (fun i hi (e:i=b7)=>by omega),h.fr.came⟩⟩
 refine ⟨ho.row h.gr.opn.row (fun g hg (e:g=b7)=>h.own7 (e ▸ hg)),h.gr.opn.own,h.gr.opn.len,h.gr.opn.size,fun k x hx=>?_⟩;obtain ⟨u,u1,u2⟩:=h.gr.opn.each k x hx;exact ⟨u,u1,u2⟩
def ParG (B:Nat->Nat) (w0:World) (gb gm gl lo n b2 b7:Nat) (ov0:Value) (W0:World) (t:Grp × Nat) (e:Ending) (w':World):Prop:=e=.returned (.bool false)/\∃ ov us,Mt B w0 gb gm gl lo n b2 b7 ov0 W0 t ov us w'
theorem Zk8 {A:Nat->Prop} {B:Nat->Nat} {T mb:Nat} {es:List Ent} {w0:World} (hT:Tab A w0 T mb B es) {gb gm gl lo b2 b7:Nat} {ov0:Value} {W0:World} (hq:GrS w0.heap.size gb gm gl lo) (hr:MtS lo b2 b7 W0) (m:Grp->Nat->Grp × Nat) (d:Nat) (hd:d<es.length)
  (t:Grp × Nat) (ov:Value) (us:List Value) (W:World) (hG:GI es.length t.1)
  (ih:t.1.met.getD d 0=0->∀ W,Gr B w0 gb gm gl lo es.length t.1 ov us W->Calls Tryz.prog 108 #[.pointer (some ⟨gb,0,none⟩),entV B d] W (ZnZ B w0 gb gm gl lo es.length ov W (m t.1 d)))
  (hM:Mt B w0 gb gm gl lo es.length b2 b7 ov0 W0 t ov us W) :
  Calls Tryz.prog 168 (#[entV B d]++#[.pointer (some ⟨b2,0,none⟩),.pointer (some ⟨b7,0,none⟩)]) W (ParG B w0 gb gm gl lo es.length b2 b7 ov0 W0 (ZbA m t d)):=by
 obtain ⟨e,he⟩:∃ e,es[d]? = some e:=⟨_,Yaa hd⟩
 obtain ⟨n,hn⟩:∃ n,n=es.length:=⟨_,rfl⟩
 obtain ⟨z,hz⟩:∃ z,z=t.1.met.getD d 0:=⟨_,rfl⟩
 have HM:=Hd hM;have HG:=Hd hG;have HQ:=Hd hq;have HR:=Hd hr;have HS:Hid (∀ W',Below W.heap.size W W'->W'.cell? ⟨b2,0,none⟩=some (.pointer (some ⟨gb,0,none⟩))/\W'.cell? ⟨gb,0,none⟩=some (.slice (some ⟨gm,0,none⟩) n n)/\W'.cell? ⟨B d,0,none⟩=some (.int .i64 d)/\W'.cell? ⟨gm,d,none⟩=some (.int .i64 z)):=Hd (fun W' hW=>by
  obtain ⟨_,_,_,_,hb,_,_,_,_⟩:=(hT.below (hM.gr.bel.trans (YbN hW hM.gr.bel.size))).ent d e he;refine ⟨(hM.box2.below hW).cell 0 rfl,by rw [hn];exact (hM.gr.box.below hW).cell 0 rfl,hb.cell 0 rfl,?_⟩;rw [(hM.gr.met.keep (Yad (S:=fun _=>False) hW) id).at_ d hd,Yau,getD_some (by rw [hG.mlen];exact hd),←hz];rfl)
 have h0:Below W.heap.size W W:=Yab _ _;obtain ⟨g1,g2,g3,g4⟩:=HS.o W h0;have hd0:(0:Int)<=(d:Int):=by omega
 have hdn:(d:Int)<(n:Int):=by rw [hn];omega
 have HZ:=Hd hz;have HI:=Hd ih;have HN:=Hd hn;clear hT he hM hG hq hr hz ih hn hd;by_cases hz0:z=0
 ·subst hz0;go_enter Tryz.func168,Tryz.ntmps168
  go_upto_region 1 with fail
  first
  | (go_region_held (fun W=>W.cell? ⟨b2,0,none⟩=some (.pointer (some ⟨gb,0,none⟩))/\W.cell? ⟨gb,0,none⟩=some (.slice (some ⟨gm,0,none⟩) n n)/\W.cell? ⟨B d,0,none⟩=some (.int .i64 d)/\W.cell? ⟨gm,d,none⟩=some (.int .i64 (0:Nat)))
    ((refine HS.o _ ?_;(repeat (first|(with_reducible exact Yab _ _)|(with_reducible assumption)|(with_reducible refine Zab ?_))))) (fail))
  | fail
  all_goals
   clear g1 g2 g3 g4;obtain ⟨g1,_,_,_⟩:=HS.o _ (Zab h0);have HM1:=Hd HM.o.drew;clear HS h0 HM;have HCALL:=Hd (HI.o HZ.o.symm _ HM1.o.gr)
   go_wp2_with fail
   refine HCALL.o.mono ?_;rintro e1 w1 ⟨rfl,ov1,us1,hg1,hf1⟩;have hnot:∀ b,lo<=b->b<W.drew.heap.size->ov.ownBlock ≠ some b->¬ (b=gb\/b=gm\/b=gl\/ov.ownBlock=some b):=fun b hb _ ho q=>by
    have h1:=HQ.o.ub;have h2:=HQ.o.um;have h3:=HQ.o.ul;rcases q with q|q|q|q
    ·omega
    ·omega
    ·omega
    ·exact ho q
   have hnew:∀ b,b<W.drew.heap.size->ov.ownBlock ≠ some b->ov1.ownBlock ≠ some b:=fun b hb ho q=>by
    rcases hf1.came with e|e
    ·exact ho (e ▸ q)
    ·have:=e b q;omega
   have l2:=HM1.o.box2.lt;have l7:=HM1.o.box7.lt;have hmt:Mt B w0 gb gm gl lo es.length b2 b7 ov0 W0 ((m t.1 d).1,t.2) ov1 us1 w1:=
    ⟨hg1,HM1.o.box2.keep hf1.only (hnot b2 HR.o.l2 l2 HM1.o.own2),HM1.o.box7.keep hf1.only (hnot b7 HR.o.l7 l7 HM1.o.own7),hnew b2 l2 HM1.o.own2,hnew b7 l7 HM1.o.own7,HM1.o.fr.trans hf1⟩
   have p7:=hmt.box7.cell 0 rfl;have f7:=hmt.box7.free 0;have HMT:=Hd hmt;clear hmt hg1 hf1 hnot hnew l2 l7 g1 HCALL HM1 HI;have est:ZbA m t d=((m t.1 d).1,min t.2 (m t.1 d).2):=by unfold ZbA;rw [YaC HZ.o.symm]
   have HES:=Hd est;clear est;go_wp2;go_ret;have emin:min ((t.2:Nat):Int) (((m t.1 d).2:Nat):Int)=((min t.2 (m t.1 d).2:Nat):Int):=by omega
   rw [emin,HES.o];exact ⟨rfl,ov1,us1,HMT.o.least HQ.o HR.o _⟩
 ·have hz1:¬ (z:Int)=0:=by omega
  have hzb:((z:Int) == 0)=false:=Yah.2 hz1;go_enter Tryz.func168,Tryz.ntmps168
  go_upto_region 1 with fail
  first
  | (go_region_held (fun W=>W.cell? ⟨b2,0,none⟩=some (.pointer (some ⟨gb,0,none⟩))/\W.cell? ⟨gb,0,none⟩=some (.slice (some ⟨gm,0,none⟩) n n)/\W.cell? ⟨B d,0,none⟩=some (.int .i64 d)/\W.cell? ⟨gm,d,none⟩=some (.int .i64 z))
    ((refine HS.o _ ?_;(repeat (first|(with_reducible exact Yab _ _)|(with_reducible assumption)|(with_reducible refine Zab ?_))))) (fail))
  | fail
  all_goals
   clear g1 g2 g3 g4 HS h0;have HM1:=Hd HM.o.drew;have p7:=HM1.o.box7.cell 0 rfl;have f7:=HM1.o.box7.free 0;have est:ZbA m t d=(t.1,min t.2 z):=by unfold ZbA;rw [Yas (by rw [←HZ.o];exact hz0),←HZ.o]
   have HES:=Hd est;clear est HM;go_wp2;go_ret;have emin:min ((t.2:Nat):Int) ((z:Nat):Int)=((min t.2 z:Nat):Int):=by omega
   rw [emin,HES.o];exact ⟨rfl,ov,us,HM1.o.least HQ.o HR.o _⟩
