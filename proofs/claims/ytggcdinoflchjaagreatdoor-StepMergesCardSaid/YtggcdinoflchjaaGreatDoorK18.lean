/- laws -/
import Derived.Test.YtggcdinoflchjaaGreatDoorK17
set_option maxRecDepth 100000
set_option maxHeartbeats 16000000
namespace Go.Proofs.YtggcdinoflchjaaGreatDoor
open Go.RowKit
theorem Zo1:(Tryz.prog.info? 99).map (fun i=>(i.zero,i.size,i.bytes))=some (some (.agg #[.string ⟨#[]⟩,.string ⟨#[]⟩,.bool false]),3,40):=by kernel_rfl
theorem TRow.lower {α:Type} {n:Nat} {t:TypeId} {R:Zaq α} (hR:Stays R) {lo lo':Nat} {w:World} {vs:Value} {m:List α} {us:List Value} (h:TRow n t R lo w vs m us) (hl:lo'<=lo):TRow n t R lo' w vs m us:=
 ⟨h.row,fun g hg=>Yan hl (h.own g hg),h.len,h.size,fun k x hx=>by obtain ⟨u,h1,h2⟩:=h.each k x hx;exact ⟨u,h1,hR.mono h2 (fun i _ hi=>⟨Yan hl hi.1,hi.2⟩)⟩⟩
def Zbq (es:List Ent) (i:Nat):List Fld:=match es[i]? with|some e=>e.cls.flds|none=>[]
def Zbu (es:List Ent):List Nat->List Fld
 | []=>[]
 | i :: l=>Zbu es l++Zbq es i
theorem ZgR {es:List Ent} (h:∀ (i:Nat) (e:Ent),es[i]? = some e->e.cls.flds.length<=32):∀ L,(Zbu es L).length<=L.length * 32
 | []=>by simp [Zbu]
 | i :: l=>by
  have ih:=ZgR h l;have h1:(Zbq es i).length<=32:=by
   unfold Zbq;cases he:es[i]? with
   | none=>simp
   | some e=>exact h i e he
  simp only [Zbu,Yal,YaJ];omega
def Zow (fs:List Fld) (w:World) (e:Ending) (w':World):Prop:=∃ v,e=.returned v/\TRow 3 99 FldR w.heap.size w' v fs (fs.map fldV)/\Below w.heap.size w w'
def Zq5 (es:List Ent) (n:List UInt8):List Fld:=Zbu es (Zal es (Zac es n))
theorem Zh5 (es:List Ent):∀ (n:Nat) (o:Option Nat),(ZfC es n o).length<=n
 | 0,_=>by simp [ZfC]
 | n+1,none=>by simp [ZfC]
 | n+1,some i=>by
  unfold ZfC;split
  ·rw [YaJ];exact Nat.succ_le_succ (Zh5 es n _)
  ·simp
def idxV:Option Nat->Int
 | some k=>k
 | none=>-1
def Zf3 (o:Option Nat) (w:World) (e:Ending) (w':World):Prop:=e=.returned (.int .i64 (idxV o))/\Below w.heap.size w w'
theorem Zi0 {α:Type} {p:α->Bool} {l:List α} {k:Nat} {x:α} (hx:l[k]? = some x) (hn:(l.take k).any p=false) (hp:p x=true):l.findIdx? p=some k:=by
 obtain ⟨hk,he⟩:=Yag.1 hx;rw [YaX];refine ⟨hk,by rw [he];exact hp,fun j hj=>?_⟩;have h1:=YaU.1 hn (l[j]'(by omega)) (Yad (i:=j) (by rw [List.getElem?_take_of_lt hj,Yaa (by omega)]))
 simpa using h1
def ZcZ (es:List Ent) (n f:List UInt8):Option Nat:=(Zq5 es n).findIdx? (fun x=>x.name == f)
def MPtr (A:Nat->Prop) (w:World) (p:Value) (m:Mth):Prop:=∃ b o v,p=.pointer (some ⟨b,o,none⟩)/\MthR A w m v/\v.cells.size=7/\b<w.heap.size/\∀ (j:Nat) u,v.cells[j]? = some u->w.cell? ⟨b,o+j,none⟩=some u
def Zat (es:List Ent) (i:Nat):List Mth:=match es[i]? with|some e=>e.cls.mths|none=>[]
def ownM (es:List Ent) (x:Nat) (n:List UInt8):Option Mth:=(Zat es x).find? (fun m=>m.name == n)
def OwnP (A:Nat->Prop) (w:World) (o:Option Mth) (p:Value):Prop:=match o with
 | some m=>MPtr A w p m
 | none=>p=.pointer none
def OwnG (A:Nat->Prop) (w0:World) (o:Option Mth) (w:World) (e:Ending) (w':World):Prop:=∃ p,e=.returned p/\OwnP A w0 o p/\Below w.heap.size w w'
theorem Zpw {A:Nat->Prop} {B:Nat->Nat} {T mb:Nat} {es:List Ent} {w0:World} (hT:Tab A w0 T mb B es) (i:Nat) (hi:i<es.length) (n:List UInt8) (w:World) (hw:Below w0.heap.size w0 w) (hlen:(Zat es i).length<=9223372036854775807) :
  Calls Tryz.prog 228 #[.pointer (some ⟨B i,0,none⟩),.string (S n)] w (OwnG A w0 (ownM es i n) w):=by
 obtain ⟨lv,fv,mv,sv,hb,_,_,hm,_⟩:=hT.ent i es[i] (Yaa hi);have hma:Zat es i=es[i].cls.mths:=by unfold Zat;rw [Yaa hi]
 rw [←hma] at hm;unfold ownM;generalize Zat es i=ms at hm hlen ⊢;obtain ⟨so,sc,rfl⟩:=hm.shape;have HM:=Hd (Src.elem hm);have HW:=Hd hw;obtain ⟨k0,hk0⟩:∃ k,k=ms.length:=⟨_,rfl⟩
 have HN:=Hd hk0;have c8:w.cell? ⟨B i,8,none⟩=some (.slice so ms.length sc):=(hb.below hw).cell 8 rfl;rw [←hk0] at hlen c8;have e1:=Zae n;have hmlt:∀ (k:Nat) (x:Mth),ms[k]? = some x->∀ b o,so=some ⟨b,o,none⟩->b<w0.heap.size:=fun k x hx b o he=>by
  obtain ⟨b',o',v,h1,_,h3,h4⟩:=HM.o k x hx;rw [he] at h1;have h1':=Yae h1;have h5:b=b':=Ya5 Addr.block h1';have:=World.block_lt_of_cell? w0 _ (h4 0 (v.cells[0]'(by omega)) (Yb2 _));rw [h5];exact this
 have HLT:=Hd hmlt;clear hb hm hma hk0 hT hw hmlt;go_enter Tryz.func228,Tryz.ntmps228;go_wp2
 go_loopw [12] (fun v wr=>∃ k:Nat,k<=k0/\v=.int .i64 k/\(ms.take k).any (fun m=>m.name == n)=false/\wr=w) (fun v _=>k0 - (intOf v).toNat)
 case atStart=>exact ⟨0,Yai _,rfl,by simp,rfl⟩
 case round=>
  obtain ⟨k,hk,rfl,hall,rfl⟩:=hrel;have HA:=Hd hall;clear hall;by_cases hlt:k<k0
  ·have hkl:k<ms.length:=by have:=HN.o;omega
   obtain ⟨x,hx⟩:∃ x,ms[k]? = some x:=⟨_,Yaa hkl⟩
   obtain ⟨b,o,v,rfl,hv,hsz,hcl⟩:=HM.o k x hx;have HV:=Hd hv;have HX:=Hd hx;have HCL:=Hd hcl;obtain ⟨pv,cv,kv,hve,_,_,_⟩:=hv;have d0:wr.cell? ⟨b,o+k * 7,none⟩=some (.string (S x.name)):=(Yaf (S:=fun _=>False) HW.o).cell (a:=⟨b,o+k * 7,none⟩) (by have q:=hcl 0 (.string (S x.name)) (by rw [hve];rfl);exact q) id;have e2:=Zae x.name;have hk0':(0:Int)<=k:=by omega
   have hkn:(k:Int)<(k0:Int):=by omega
   have HSZ:=Hd hsz;clear hcl hve hx hkl hsz;cases hp:(x.name == n) with
   | true=>
    have hfin:ms.find? (fun m=>m.name == n)=some x:=ZhN HX.o (fun j y hj hy=>by
     have:=YaU.1 HA.o y (Yad (i:=j) (by rw [List.getElem?_take_of_lt hj];exact hy))
     simpa using this) hp
    have HFI:=Hd hfin;clear hfin;go_wp2;go_ret;refine ⟨_,rfl,?_,Yab _ _⟩;rw [HFI.o];exact ⟨b,o+k * 7,v,rfl,HV.o,HSZ.o,HLT.o k x HX.o b o rfl,HCL.o⟩
   | false=>
    have hts:=Zai (fun m:Mth=>m.name == n) ms k x HX.o;rw [HA.o,hp] at hts;have HTS:=Hd hts;clear hts;go_wp2
    go_roundw
    case rel=>exact ⟨k+1,by omega,by go_num,HTS.o,(by first|rfl|trivial)⟩
    case measure=>simp [intOf];omega
  ·obtain rfl:k0=k:=by omega
   have hfin:ms.find? (fun m=>m.name == n)=none:=by
    have h:=HA.o;rw [HN.o,Yay (Yac _)] at h;rw [Yby];intro x hx;have:=YaU.1 h x hx
    simpa using this
   have HFI:=Hd hfin;clear hfin;go_wp2;go_ret;refine ⟨_,rfl,?_,Yab _ _⟩;rw [HFI.o];exact rfl
def Seen1 (B:Nat->Nat) (x O Mc:Nat) (p:Value) (w w':World):Prop:=∃ w1,Below w.heap.size w w1/\w'=(w1.setCell ⟨O,0,none⟩ (entV B x)).setCell ⟨Mc,0,none⟩ p
theorem Zns {A:Nat->Prop} {B:Nat->Nat} {T mb:Nat} {es:List Ent} {w0:World} (hT:Tab A w0 T mb B es) (x:Nat) (hx:x<es.length) (n:List UInt8) (w:World) (hw:Below w0.heap.size w0 w) (hlen:(Zat es x).length<=9223372036854775807)
  (c1 O Mc:Nat) (po pm:Option Addr) (h1:w.cell? ⟨c1,0,none⟩=some (.string (S n))) (hO:Box w O #[.pointer po] 94) (hM:Box w Mc #[.pointer pm] 163) (hOM:O ≠ Mc) :
  Calls Tryz.prog 227 #[entV B x,.pointer (some ⟨c1,0,none⟩),.pointer (some ⟨O,0,none⟩),.pointer (some ⟨Mc,0,none⟩)] w
   (YesNo (fun w'=>∃ m p,ownM es x n=some m/\MPtr A w0 p m/\Seen1 B x O Mc p w w') (fun w'=>ownM es x n=none/\Seen1 B x O Mc (.pointer none) w w')):=by
 have HC:=Hd (Zpw hT x hx n w hw hlen);have HO:=Hd hO;have HM:=Hd hM;have HOM:=Hd hOM;clear hT hw hlen hO hM hOM;unfold OwnG at HC;generalize ho:ownM es x n=o at HC ⊢;clear ho;go_enter Tryz.func227,Tryz.ntmps227
 go_wp2_with fail
 refine HC.o.mono ?_;rintro e w1 ⟨p,rfl,hp,hb⟩;have HB:=Hd hb;have ho:=HO.o.below hb;have hm:=HM.o.below hb;have hom:=HOM.o;have o0:=ho.cell 0 rfl;have o1:=ho.free 0;have m0:=(hm.set_ne (Ne.symm hom) 0 (entV B x)).cell 0 rfl;have m1:=(hm.set_ne (Ne.symm hom) 0 (entV B x)).free 0;cases o with
 | none=>
  obtain rfl:p=.pointer none:=hp;have f0:=((hm.set_ne (Ne.symm hom) 0 (entV B x)).set 0 (.pointer none)).cell 0 rfl;clear hb ho hm HC h1 hom;go_wp2;go_ret;exact ⟨false,rfl,(fun h=>by cases h),fun _=>⟨w1,HB.o,rfl⟩⟩
 | some m=>
  have HP:=Hd hp;obtain ⟨b,o,v,rfl,_⟩:=hp;have f0:=((hm.set_ne (Ne.symm hom) 0 (entV B x)).set 0 (.pointer (some ⟨b,o,none⟩))).cell 0 rfl;clear hb ho hm HC h1 hom;go_wp2;go_ret;exact ⟨true,rfl,fun _=>⟨m,_,rfl,HP.o,w1,HB.o,rfl⟩,(fun h=>by cases h)⟩
theorem ZjS {P:Program} {t e:TypeId} (ht:P.underlying t=some (.pointer e)) {w:World} {a:Addr} {v:Value} (h:w.cell? a=some v):(loadVar t a).run P w=.ok v w:=by
 simp [loadVar,isAgg,run_underlying ht,h,Result.andThen]
def ZbU (es:List Ent) (o:Option Nat) (n:List UInt8):Option (Nat × Mth):=(ZaE es o).findSome? (fun x=>(ownM es x n).map (fun m=>(x,m)))
def ZqQ (A:Nat->Prop) (B:Nat->Nat) (w:World) (r:Option (Nat × Mth)) (po pm:Option Addr):Prop:=match r with
 | some (x,m)=>po=some ⟨B x,0,none⟩/\MPtr A w (.pointer pm) m
 | none=>pm=none
def Zp2 (A:Nat->Prop) (B:Nat->Nat) (w0:World) (r:Option (Nat × Mth)) (w:World) (e:Ending) (w':World):Prop:=∃ po pm,e=.returned (.tuple #[.pointer po,.pointer pm])/\ZqQ A B w0 r po pm/\Below w.heap.size w w'
theorem ZgQ {α β:Type} {f:α->Option β} {l:List α} {k:Nat} {x:α} {y:β} (hx:l[k]? = some x) (hn:∀ j z,j<k->l[j]? = some z->f z=none) (hy:f x=some y):l.findSome? f=some y:=by
 induction l generalizing k with
 | nil=>simp at hx
 | cons a l ih=>
  cases k with
  | zero=>
   simp at hx
   subst hx;rw [YbE,hy]
  | succ k=>
   have h0:=hn 0 a (by omega) rfl;rw [YbE,h0];exact ih (k:=k) (by simpa using hx) (fun j z hj hz=>hn (j+1) z (by omega) (by simpa using hz))
theorem Seen1.boxes {B:Nat->Nat} {x O Mc:Nat} {po pm:Option Addr} {p:Option Addr} {w w':World} (h:Seen1 B x O Mc (.pointer p) w w') (hO:Box w O #[.pointer po] 94) (hM:Box w Mc #[.pointer pm] 163) (hn:O ≠ Mc) :
  Box w' O #[entV B x] 94/\Box w' Mc #[.pointer p] 163/\Only (fun b=>b=O\/b=Mc) w w':=by
 obtain ⟨w1,hb,rfl⟩:=h;exact ⟨((hO.below hb).set 0 _).set_ne hn 0 _,((hM.below hb).set_ne (Ne.symm hn) 0 _).set 0 _,((Yaf hb).setCell (Or.inl rfl) _).setCell (Or.inr rfl) _⟩
def Zrp (es:List Ent) (o:Option Nat) (n:List UInt8) (O Mc:Nat) (W:World) (k:Nat) (w':World):Prop:=
 (∃ po,Box w' O #[.pointer po] 94)/\Box w' Mc #[.pointer none] 163/\Only (fun b=>b=O\/b=Mc) W w'/\∀ j x,j<k->(ZaE es o)[j]? = some x->ownM es x n=none
def Zp3 (A:Nat->Prop) (B:Nat->Nat) (w0:World) (es:List Ent) (o:Option Nat) (n:List UInt8) (O Mc:Nat) (W:World) (w':World):Prop:=
 ∃ po pm,Box w' O #[.pointer po] 94/\Box w' Mc #[.pointer pm] 163/\ZqQ A B w0 (ZbU es o n) po pm/\Only (fun b=>b=O\/b=Mc) W w'
theorem ZkU {A:Nat->Prop} {B:Nat->Nat} {T mb:Nat} {es:List Ent} {w0:World} (hT:Tab A w0 T mb B es) (hS:Shape es) (hml:∀ i,(Zat es i).length<=9223372036854775807) (o:Option Nat) (ho:∀ i,o=some i->i<es.length) (n:List UInt8)
  (c1 O Mc:Nat) (W:World) (hW:Below w0.heap.size w0 W) (h1:W.cell? ⟨c1,0,none⟩=some (.string (S n))) (hO:Box W O #[.pointer none] 94) (hM:Box W Mc #[.pointer none] 163) (hn:O ≠ Mc) (hc1:c1 ≠ O) (hc2:c1 ≠ Mc) (hO0:w0.heap.size<=O) (hM0:w0.heap.size<=Mc) :
  Calls Tryz.prog 192 #[ptrV B o,.func (.func 227) #[] #[.pointer (some ⟨c1,0,none⟩),.pointer (some ⟨O,0,none⟩),.pointer (some ⟨Mc,0,none⟩)]] W (fun e w'=>∃ b,e=.returned (.bool b)/\Zp3 A B w0 es o n O Mc W w'):=by
 have hc:=hS.line o ho;have hOl:=hO.lt;have hMl:=hM.lt;have hcl:c1<W.heap.size:=World.block_lt_of_cell? W _ h1;refine (Zhs hT hS.len hS.lk _ _ (Zah Tryz.func227 (by kernel_rfl) rfl) W.heap.size es.length o (Zal es o) hc (hS.mem hc) (Zrp es o n O Mc W) (fun _=>Zp3 A B w0 es o n O Mc W) W (Yac _)
  (fun k w' h=>hW.trans (h.2.2.1.below hW.size (fun i hi=>by rcases hi with h|h <;> omega))) (fun k w1 w2 h ho=>?_) (fun k x w' hx hj=>?_) ⟨⟨_,hO⟩,hM,Yam _ _,fun j x hj=>by omega⟩).mono fun e w' q=>?_
 ·obtain ⟨⟨po,bO⟩,bM,on,hall⟩:=h;exact ⟨⟨po,bO.keep ho (by omega)⟩,bM.keep ho (by omega),on.then ho (fun i hi hlo=>by omega),hall⟩
 ·have hx':(ZaE es o)[k]? = some x:=hx;obtain ⟨⟨po,bO⟩,bM,on,hall⟩:=hj;refine (Zns hT x (Zeh hS ho x (Yad hx')) n w' (hW.trans (on.below hW.size (fun i hi=>by rcases hi with h|h <;> omega))) (hml x) c1 O Mc po none (on.cell h1 (by rintro (h|h) <;> contradiction)) bO bM hn).mono fun e w'' q=>?_
  obtain ⟨b,he,hy,hno⟩:=q;cases b with
  | true=>
   obtain ⟨m,p,h2,h3,h4⟩:=hy rfl;have h3':=h3;obtain ⟨bb,oo,v,rfl,_⟩:=h3;obtain ⟨q1,q2,q3⟩:=h4.boxes bO bM hn;refine ⟨⟨true,he,fun _=>⟨_,_,q1,q2,?_,on.trans q3⟩,(fun h=>by cases h)⟩,q3.mono (fun i _ hi=>by rcases hi with h|h <;> (show i<W.heap.size;omega))⟩;have hf:ZbU es o n=some (x,m):=ZgQ hx' (fun j z hj hz=>by rw [hall j z hj hz];rfl) (by rw [h2];rfl);rw [hf];exact ⟨rfl,h3'⟩
  | false=>
   obtain ⟨h2,h4⟩:=hno rfl;obtain ⟨q1,q2,q3⟩:=h4.boxes bO bM hn;refine ⟨⟨false,he,(fun h=>by cases h),fun _=>⟨⟨_,q1⟩,q2,on.trans q3,fun j z hj hz=>?_⟩⟩,q3.mono (fun i _ hi=>by rcases hi with h|h <;> (show i<W.heap.size;omega))⟩;rcases YaE j k with h|h
   ·exact hall j z h hz
   ·obtain rfl:j=k:=by omega
    rw [hx'] at hz;rw [←Yae hz];exact h2
 ·obtain ⟨b,he,hy,hno⟩:=q;refine ⟨b,he,?_⟩;cases b with
  | true=>
   obtain ⟨_,_,h⟩:=hy rfl;exact h
  | false=>
   obtain ⟨⟨po,bO⟩,bM,on,hall⟩:=hno rfl;refine ⟨po,none,bO,bM,?_,on⟩;have hf:ZbU es o n=none:=by
    unfold ZbU;rw [List.findSome?_eq_none_iff];intro x hx;obtain ⟨j,hj⟩:=YbD hx;rw [hall j x (Yag.1 hj).1 hj];rfl
   rw [hf];exact rfl
theorem ZjX {A:Nat->Prop} {B:Nat->Nat} {T mb:Nat} {es:List Ent} {w0:World} (hT:Tab A w0 T mb B es) (hS:Shape es) (hml:∀ i,(Zat es i).length<=9223372036854775807) (o:Option Nat) (ho:∀ i,o=some i->i<es.length) (n:List UInt8)
  (w:World) (hw:Below w0.heap.size w0 w):Calls Tryz.prog 185 #[ptrV B o,.string (S n)] w (Zp2 A B w0 (ZbU es o n) w):=by
 have hmf:∀ (fn:Fn) (first cap:Array Value) (w:World),(Instr.makeFunc fn first cap).run Tryz.prog w=.ok (.func fn first cap) w:=fun _ _ _ _=>rfl
 have hW:Below w.heap.size w (((w.alloc (.cells #[.string (S n)] 9)).alloc (.cells #[.pointer none] 94)).alloc (.cells #[.pointer none] 163)):=Zaa (Zaa (Zaa (Yab _ _) _) _) _;have x1:=(Box.new w #[.string (S n)] 9).below (w':=((w.alloc (.cells #[.string (S n)] 9)).alloc (.cells #[.pointer none] 94)).alloc (.cells #[.pointer none] 163)) (Zaa (Zaa (Yab _ _) _) _);have x2:=(Box.new (w.alloc (.cells #[.string (S n)] 9)) #[.pointer none] 94).below (w':=((w.alloc (.cells #[.string (S n)] 9)).alloc (.cells #[.pointer none] 94)).alloc (.cells #[.pointer none] 163)) (Zaa (Yab _ _) _);have x3:=Box.new ((w.alloc (.cells #[.string (S n)] 9)).alloc (.cells #[.pointer none] 94)) #[.pointer none] 163;have s1:(w.alloc (.cells #[.string (S n)] 9)).heap.size=w.heap.size+1:=by simp
 have s2:((w.alloc (.cells #[.string (S n)] 9)).alloc (.cells #[.pointer none] 94)).heap.size=w.heap.size+1+1:=by simp
 rw [s1] at x2;rw [s2] at x3;have hws:=hw.size;have HA:=Hd (ZkU hT hS hml o ho n w.heap.size (w.heap.size+1) (w.heap.size+1+1) _ (hw.trans (hW.mono hw.size)) (x1.cell 0 rfl) x2 x3 (by omega) (by omega) (by omega) (by omega) (by omega));obtain ⟨q,hq⟩:=ZdY B o;rw [hq] at HA ⊢;have HW:=Hd hW;unfold Zp3 at HA;generalize ZbU es o n=r at HA ⊢;clear hT hS hml ho hw hW x1 x2 x3 s1 s2 hws hq;go_enter Tryz.func185,Tryz.ntmps185
 go_upto_region 1 with fail
 go_wp2_with fail
 refine HA.o.mono ?_;rintro e w1 ⟨b,rfl,po,pm,hO,hM,hP,hon⟩;have HP:=Hd hP;have HO:=Hd hO;have HM:=Hd hM;have HB:Hid (Below w.heap.size w w1):=Hd (HW.o.trans (hon.below (by have:=HW.o.size;omega) (fun i hi=>by rcases hi with h|h <;> omega)));have o0:=hO.cell 0 rfl;have o1:=hO.free 0;have m0:=hM.cell 0 rfl;have m1:=hM.free 0;clear hP hO hM hon HA HW
 go_upto_region 2 with fail
 go_region
 all_goals
  clear o0 o1 m0 m1;have y1:=((HO.o.set 0 (.pointer po)).set_ne (I:=w.heap.size+1+1) (by omega) 0 (.pointer pm)).cell 0 rfl;have y2:=((HM.o.set_ne (I:=w.heap.size+1) (by omega) 0 (.pointer po)).set 0 (.pointer pm)).cell 0 rfl;have hB:Below w.heap.size w (((w1.setCell ⟨w.heap.size+1,0,none⟩ (.pointer po)).setCell ⟨w.heap.size+1+1,0,none⟩ (.pointer pm)).drew):=
   Zab ((HB.o.setCell (by show w.heap.size<=w.heap.size+1;omega) _).setCell (by show w.heap.size<=w.heap.size+1+1;omega) _)
  have HBB:=Hd hB;clear hB;go_wp2;refine bodyPost_ret (v:=.tuple #[.pointer po,.pointer pm]) ?_ rfl ⟨po,pm,rfl,HP.o,HBB.o⟩;have l1:=ZjS Tryz.underlying94 (w:=(((w1.setCell ⟨w.heap.size+1,0,none⟩ (.pointer po)).setCell ⟨w.heap.size+1+1,0,none⟩ (.pointer pm)).drew)) y1;have l2:=ZjS Tryz.underlying163 (w:=(((w1.setCell ⟨w.heap.size+1,0,none⟩ (.pointer po)).setCell ⟨w.heap.size+1+1,0,none⟩ (.pointer pm)).drew)) y2;simp only [results,Tryz.results185];simp [asAddr,l1,l2]
def Cloned {α:Type} (n:Nat) (R:Zaq α) (A:Nat->Prop) (lo:Nat) (w:World) (v:Value) (l:List α):Prop:=
 (l=[]/\∃ ao c,v=.slice ao 0 c)\/
 ∃ g c,v=.slice (some ⟨g,0,none⟩) l.length c/\lo<=g/\g<w.heap.size/\l.length<=c/\c<=9223372036854775807/\(∀ m,w.frozen? ⟨g,m,none⟩=false)/\
  ∀ (j:Nat) (x:α),l[j]? = some x->∃ u,R A w x u/\u.cells.size=n/\∀ (i:Nat) c,u.cells[i]? = some c->w.cell? ⟨g,j * n+i,none⟩=some c
section
variable {P:Program} {w:World}
theorem ZdM {α:Type} {n:Nat} (hn:0<n) {R:Zaq α} (hR:Stays R) {A:Nat->Prop} {sv:Value} {l:List α} (hone:∀ x v,R A w x v->∀ u ∈ v.cells.toList,u.oneCell'=true) (t ty e:TypeId) (i:TypeInfo) (z:Value) (bytes:Nat)
  (ht:P.underlying t=some (.slice e)) (hi:P.info? e=some i) (hz:i.zero=some z) (hsize:i.size=n) (hby:i.bytes=bytes) (hzs:z.cells.size=n) (hs:Src n R A w sv l) (hlim:l.length * bytes<=140737488355328) (h63:l.length<=9223372036854775807) :
  ∃ v' w',(Builtin.append_ #[t,t] ty #[.slice (some ⟨w.heap.size,0,none⟩) 0 0,sv]).run P (w.alloc (.cells #[] e))=.ok v' w'/\Cloned n R A w.heap.size w' v' l/\Below w.heap.size w w':=by
 have hb0:Below w.heap.size w (w.alloc (.cells #[] e)):=(Yab _ w).alloc (Yac _) _;have hown:(w.alloc (.cells #[] e)).ownsRow 0 e n (.slice (some ⟨w.heap.size,0,none⟩) 0 0) 0 []:=
  ⟨by simp,.inr ⟨w.heap.size,0,#[],rfl,Yai _,heap_alloc_new w _,Yac _,Yai _,by simp,by simp⟩⟩
 rcases hs with ⟨ao,cp,rfl,rfl⟩|⟨b,o,cap,rfl,_,hc⟩
 ·exact ⟨_,_,ZbK _ t ty e i n ht hi _ 0 [] hown ao cp,.inl ⟨rfl,_,_,rfl⟩,hb0⟩
 ·have ho:=Yaf (S:=fun _=>False) hb0;obtain ⟨us,hul,hu⟩:=Src.vals hc;have husz:∀ u ∈ us,u.cells.size=n:=fun u hm=>by
   obtain ⟨k,hk⟩:=YbD hm;obtain ⟨_,_,_,h,_⟩:=hu k u hk;exact h
  have hcl:(ZaQ us).length=l.length * n:=by rw [ZcD us husz,hul]
  have hnews:=Src.cells us hu hn;have h1:∀ u ∈ ZaQ us,u.oneCell'=true:=fun q hq=>by
   unfold ZaQ at hq;obtain ⟨u,hum,hqu⟩:=YbB.1 hq;obtain ⟨k,hk⟩:=YbD hum;obtain ⟨x,_,hx,_,_⟩:=hu k u hk;exact hone x u hx q hqu
  obtain ⟨v',w',hr,h2,h3⟩:=Zbr (P:=P) (w.alloc (.cells #[] e)) t ty e i z n bytes ht hi hz hsize hby hzs hn _ 0 [] hown ⟨b,o,none⟩ l.length cap (ZaQ us) hcl (fun j q hq=>ho.cell (hnews j q hq) id) h1 (by unfold maxLen;omega) (by rw [Ybd];exact hlim);rw [Ybd,Ybm] at h2;have hbw:Below w.heap.size w w':=hb0.trans (h3.only.below hb0.size (fun k hk=>by simp [Value.ownBlock] at hk;omega));refine ⟨v',w',hr,?_,hbw⟩;have hlo:∀ g,v'.ownBlock=some g->w.heap.size<=g:=fun g hg=>by
   rcases h3.came with e1|e1
   ·rw [e1] at hg;simp [Value.ownBlock] at hg
    omega
   ·have h5:=e1 g hg;have h6:=hb0.size;omega
  rcases h2.2 with ⟨hv,h0⟩|⟨g,c,cur,rfl,_,hg,hnc,hcm,hcs,htake⟩
  ·exact .inl ⟨YaZ.1 h0,_,_,hv⟩
  ·refine .inr ⟨g,c,rfl,hlo g rfl,lt_of_block hg,hnc,hcm,fun m=>?_,fun j x hx=>?_⟩
   ·unfold World.frozen?;rw [hg];simp
   ·have hj:j<l.length:=(Yag.1 hx).1;have huk:us[j]? = some us[j]:=Yaa (by omega);obtain ⟨y,hy,hyR,hys,_⟩:=hu j _ huk;rw [hx] at hy;obtain rfl:=Yae hy;refine ⟨us[j],hR.keep hyR (Yaf (S:=fun _=>False) hbw) (fun _ _=>id),hys,fun q c hq=>?_⟩;have hqn:=Zc4 hys hq;have:=h2.cells (g:=g) rfl (j * n+q) c (by rw [ZcN us j q _ husz huk hqn];exact hq);rw [Ybq,Ybd] at this;exact this
end
noncomputable def setRow (w:World) (g o:Nat):List Value->World
 | []=>w
 | c :: r=>setRow (w.setCell ⟨g,o,none⟩ c) g (o+1) r
theorem ZbO {S:Nat->Prop} {a:World}:∀ (vs:List Value) (w:World) (g o:Nat),Only S a w->S g->Only S a (setRow w g o vs)
 | [],_,_,_,h,_=>h
 | c :: r,_,g,o,h,hg=>ZbO r _ g (o+1) (h.setCell (p:=⟨g,o,none⟩) hg c) hg
theorem ZeS:∀ (vs:List Value) (w:World) (g o m:Nat) (v:Value),w.cell? ⟨g,m,none⟩=some v->(m<o\/o+vs.length<=m)->(setRow w g o vs).cell? ⟨g,m,none⟩=some v
 | [],_,_,_,_,_,h,_=>h
 | c :: r,w,g,o,m,v,h,hm=>by
  unfold setRow;simp only [YaJ] at hm;refine ZeS r _ g (o+1) m v ?_ (by omega);rw [World.cell?_setCell_other w ⟨g,o,none⟩ ⟨g,m,none⟩ c (by intro e;injection e with _ e;omega)];exact h
theorem Zio:∀ (vs:List Value) (w:World) (g o i:Nat) (u:Value),(∀ m,m<vs.length->∃ v,w.cell? ⟨g,o+m,none⟩=some v)->vs[i]? = some u->(setRow w g o vs).cell? ⟨g,o+i,none⟩=some u
 | [],_,_,_,i,_,_,hi=>by simp at hi
 | c :: r,w,g,o,0,u,hw,hi=>by
  simp at hi
  subst hi;unfold setRow;refine ZeS r _ g (o+1) (o+0) c ?_ (by omega);obtain ⟨v,hv⟩:=hw 0 (by simp);exact World.cell?_setCell_same w _ _ hv
 | c :: r,w,g,o,i+1,u,hw,hi=>by
  unfold setRow;have:=Zio r (w.setCell ⟨g,o,none⟩ c) g (o+1) i u (fun m hm=>by
   obtain ⟨v,hv⟩:=hw (m+1) (by simp;omega);refine ⟨v,?_⟩;rw [World.cell?_setCell_other w ⟨g,o,none⟩ ⟨g,o+1+m,none⟩ c (by intro e;injection e with _ e;omega),show o+1+m=o+(m+1) from by omega];exact hv) (by simpa using hi)
  rw [show o+(i+1)=o+1+i from by omega];exact this
theorem ZeC:∀ (vs:List Value) (w:World) (g o:Nat) (a:Addr),(setRow w g o vs).frozen? a=w.frozen? a
 | [],_,_,_,_=>rfl
 | c :: r,w,g,o,a=>by
  unfold setRow;rw [ZeC r _ g (o+1) a];exact World.frozen?_setCell _ _ _ _
structure CInv {α:Type} (n:Nat) (R:Zaq α) (lo g k:Nat) (w:World) (l:List α):Prop where
 lt:g<w.heap.size
 ge:lo<=g
 free:∀ m,w.frozen? ⟨g,m,none⟩=false
 at_:∀ (j:Nat) (x:α),l[j]? = some x->∃ u,(if j<k then R (fun i=>lo<=i/\i ≠ g) w x u else R (fun i=>i<lo) w x u)/\u.cells.size=n/\∀ (i:Nat) c,u.cells[i]? = some c->w.cell? ⟨g,j * n+i,none⟩=some c
theorem CInv.only {α:Type} {n:Nat} {R:Zaq α} (hR:Stays R) {lo g k:Nat} {w w':World} {l:List α} (h:CInv n R lo g k w l) (hb:Below w.heap.size w w'):CInv n R lo g k w' l:=by
 have ho:=Yaf (S:=fun _=>False) hb;refine ⟨Ybi h.lt hb.size,h.ge,fun m=>?_,fun j x hx=>?_⟩
 ·rw [hb.frozen (p:=⟨g,m,none⟩) h.lt];exact h.free m
 ·obtain ⟨u,h1,h2,h3⟩:=h.at_ j x hx;refine ⟨u,?_,h2,fun i c hc=>ho.cell (h3 i c hc) id⟩;split
  ·rename_i hjk
   rw [YaA hjk] at h1;exact hR.keep h1 ho (fun _ _=>id)
  ·rename_i hjk
   rw [Yaq hjk] at h1;exact hR.keep h1 ho (fun _ _=>id)
theorem CInv.elem {α:Type} {n:Nat} {R:Zaq α} {lo g k:Nat} {w:World} {l:List α} {x:α} (h:CInv n R lo g k w l) (hx:l[k]? = some x):∃ u,R (fun i=>i<lo) w x u/\u.cells.size=n/\∀ (i:Nat) c,u.cells[i]? = some c->w.cell? ⟨g,k * n+i,none⟩=some c:=by
 obtain ⟨u,h1,h2,h3⟩:=h.at_ k x hx;rw [Yaq (Nat.lt_irrefl k)] at h1;exact ⟨u,h1,h2,h3⟩
theorem CInv.store {α:Type} {n:Nat} {R:Zaq α} (hR:Stays R) {lo g k:Nat} {w w':World} {l:List α} {x:α} {u:Value} (h:CInv n R lo g k w l) (hb:Below w.heap.size w w') (hx:l[k]? = some x)
  (hu:R (fun i=>w.heap.size<=i) w' x u) (hs:u.cells.size=n):CInv n R lo g (k+1) (setRow w' g (k * n) u.cells.toList) l:=by
 have h':=h.only hR hb;have ho:Only (fun i=>i=g) w' (setRow w' g (k * n) u.cells.toList):=ZbO _ _ _ _ (Yam _ _) rfl;have hlen:u.cells.toList.length=n:=by rw [Ybt,hs]
 refine ⟨Ybi h'.lt ho.size,h.ge,fun m=>by rw [ZeC];exact h'.free m,fun j y hy=>?_⟩;obtain ⟨v,h1,h2,h3⟩:=h'.at_ j y hy;by_cases hjk:j=k
 ·subst hjk;rw [hx] at hy;obtain rfl:=Yae hy;refine ⟨u,?_,hs,fun i c hc=>?_⟩
  ·rw [YaA (Nat.lt_succ_self j)];have hlt:=h.lt;have hlo:=h.ge;exact hR.keep (hR.mono hu (fun i _ hi=>show lo<=i/\i ≠ g from ⟨by omega,by omega⟩)) ho (fun i hi=>hi.2)
  ·refine Zio u.cells.toList w' g (j * n) i c (fun m hm=>?_) (by rw [Ycd];exact hc);have hm':m<v.cells.size:=by rw [h2];omega
   exact ⟨_,h3 m v.cells[m] (Yb2 hm')⟩
 ·refine ⟨v,?_,h2,fun i c hc=>?_⟩
  ·by_cases hj:j<k
   ·rw [YaA hj] at h1;rw [YaA (by omega)];exact hR.keep h1 ho (fun i hi=>hi.2)
   ·rw [Yaq hj] at h1;rw [Yaq (by omega)];have hlo:=h.ge;exact hR.keep h1 ho (fun i (hi:i<lo) (q:i=g)=>by omega)
  ·have hin:=Zc4 h2 hc;refine ZeS _ _ _ _ _ _ (h3 i c hc) ?_;rw [hlen];rcases YaE j k with hj|hj
   ·left
    have:=Ycz n (show j+1<=k by omega);rw [Nat.succ_mul] at this;omega
   ·right
    have:=Ycz n (show k+1<=j by omega);rw [Nat.succ_mul] at this;omega
theorem CInv.done {α:Type} {n:Nat} {R:Zaq α} (hR:Stays R) {lo g c:Nat} {w:World} {l:List α} (h:CInv n R lo g l.length w l) (h1:l.length<=c) (h2:c<=9223372036854775807):Src n R (fun i=>lo<=i) w (.slice (some ⟨g,0,none⟩) l.length c) l:=by
 refine .inr ⟨g,0,c,rfl,⟨h.ge,h.lt,h1,h2⟩,fun k x hx=>?_⟩;obtain ⟨u,q1,q2,q3⟩:=h.at_ k x hx;rw [YaA (Yag.1 hx).1] at q1;exact ⟨u,hR.mono q1 (fun i _ hi=>hi.1),q2,fun j v hv=>by rw [Ybd];exact q3 j v hv⟩
theorem Cloned.inv {α:Type} {n:Nat} {R:Zaq α} {lo g:Nat} {w:World} {l:List α} (hlo:lo<=g) (hlt:g<w.heap.size) (hf:∀ m,w.frozen? ⟨g,m,none⟩=false)
  (h:∀ (j:Nat) (x:α),l[j]? = some x->∃ u,R (fun i=>i<lo) w x u/\u.cells.size=n/\∀ (i:Nat) c,u.cells[i]? = some c->w.cell? ⟨g,j * n+i,none⟩=some c):CInv n R lo g 0 w l:=
 ⟨hlt,hlo,hf,fun j x hx=>by obtain ⟨u,h1,h2⟩:=h j x hx;exact ⟨u,by rw [Yaq (YbN j)];exact h1,h2⟩⟩
