/- laws -/
import Derived.Test.YtggcdinoflchjaaGreatDoorK15
import Derived.Deep.RegionHeldLaw
import Derived.Deep.RegionHeld3
import Derived.Deep.AppendLies
set_option maxRecDepth 100000
set_option maxHeartbeats 16000000
namespace Go.Proofs.YtggcdinoflchjaaGreatDoor
open Go.RowKit
theorem Box.set {w:World} {B:Nat} {cs:Array Value} {t:TypeId} (h:Box w B cs t) (j:Nat) (u:Value):Box (w.setCell ⟨B,j,none⟩ u) B (cs.setIfInBounds j u) t:=Zck h
theorem Box.set_ne {w:World} {B I:Nat} {cs:Array Value} {t:TypeId} (h:Box w B cs t) (hn:B ≠ I) (j:Nat) (u:Value):Box (w.setCell ⟨I,j,none⟩ u) B cs t:=
 h.keep ((Yam (fun k=>k=I) w).setCell (p:=⟨I,j,none⟩) rfl u) hn
theorem Box.free {w:World} {B:Nat} {cs:Array Value} {t:TypeId} (h:Box w B cs t) (j:Nat):w.frozen? ⟨B,j,none⟩=false:=by
 unfold Box at h;simp [World.frozen?,h]
theorem Box.range {w:World} {B:Nat} {cs:Array Value} {t:TypeId} (h:Box w B cs t):w.rangeAt B 0 cs.toList:=by
 intro j v hj;rw [Ybd];exact h.cell j (by rw [←hj];simp)
def Hit (c:Nat) (n:List UInt8) (w:World) (w':World):Prop:=∃ w1,Below w.heap.size w w1/\w'=w1.setCell ⟨c,0,none⟩ (.string (S n))
theorem Zm7 {A:Nat->Prop} {B:Nat->Nat} {T mb:Nat} {es:List Ent} {w0:World} (hT:Tab A w0 T mb B es) (hS:Shape es) (b:List UInt8) (x:Nat) (hx:x<es.length) (w:World) (hw:Below w0.heap.size w0 w) (hb:b.length<=9223372036854775807)
  (c3 c5 c7:Nat) (v7:Value) (h3:w.cell? ⟨c3,0,none⟩=some (.pointer (some ⟨T,0,none⟩))) (h5:w.cell? ⟨c5,0,none⟩=some (.string (S b))) (h7:Box w c7 #[v7] 9) :
  Calls Tryz.prog 126 #[entV B x,.pointer (some ⟨c3,0,none⟩),.pointer (some ⟨c5,0,none⟩),.pointer (some ⟨c7,0,none⟩)] w
   (fun e w'=>YesNo (fun w'=>subE es b (nmE es x)=true/\Hit c7 (nmE es x) w w') (fun w'=>subE es b (nmE es x)=false/\Below w.heap.size w w') e w'):=by
 obtain ⟨lv,fv,mv,sv,hbx,hrest⟩:=hT.ent x es[x] (Yaa hx);have hnm:nmE es x=es[x].cls.name:=Ze2 (Yaa hx);have HS:Hid (∀ W,Below w.heap.size w W->W.cell? ⟨c3,0,none⟩=some (.pointer (some ⟨T,0,none⟩))/\W.cell? ⟨c5,0,none⟩=some (.string (S b))/\W.cell? ⟨B x,1,none⟩=some (.string (S (nmE es x)))):=Hd (fun W hW=>by
  have ho:=Yaf (S:=fun _=>False) hW;refine ⟨ho.cell h3 id,ho.cell h5 id,?_⟩;rw [hnm];exact (hbx.below (hw.trans (hW.mono hw.size))).cell 1 rfl)
 have HC:Hid (∀ W,Below w.heap.size w W->Calls Tryz.prog 123 #[.pointer (some ⟨T,0,none⟩),.string (S b),.string (S (nmE es x))] W (Said (subE es b (nmE es x)) W)):=Hd (fun W hW=>
  Zhm hT hS b (nmE es x) W (hw.trans (hW.mono hw.size)) hb (by have:=hS.nmE_le x;omega))
 have HB7:=Hd h7;have h0:Below w.heap.size w w:=Yab _ _;clear hrest hbx hnm h3 h5 h7 hT hS hw;obtain ⟨g1,g2,g3⟩:=HS.o w h0;generalize subE es b (nmE es x)=p at HC ⊢;generalize nmE es x=nm at HS HC g3 ⊢;have nm0:=Zae nm;go_enter Tryz.func126,Tryz.ntmps126
 go_upto_region 1 with fail
 first
 | (go_region_held (fun W=>W.cell? ⟨c3,0,none⟩=some (.pointer (some ⟨T,0,none⟩))/\W.cell? ⟨c5,0,none⟩=some (.string (S b))/\W.cell? ⟨B x,1,none⟩=some (.string (S nm))) ((refine HS.o _ ?_;(repeat (first|(with_reducible exact Yab _ _)|(with_reducible assumption)|(with_reducible (apply Zad;rotate_left;assumption))|(with_reducible refine Zab ?_)))))
   ((go_at_call 123;(with_reducible refine (HC.o _ ?_).mono ?_);(focus ((repeat (first|(with_reducible exact Yab _ _)|(with_reducible assumption)|(with_reducible (apply Zad;rotate_left;assumption))|(with_reducible refine Zab ?_)));done));rintro e w1 ⟨rfl,b1⟩)))
 | fail
 all_goals
  have hbE:Below w.heap.size w w1:=by (repeat (first|(with_reducible exact Yab _ _)|(with_reducible assumption)|(with_reducible (apply Zad;rotate_left;assumption))|(with_reducible refine Zab ?_)))
  have HBE:=Hd hbE;clear hbE b1 g1 g2 g3;obtain ⟨g1,g2,g3⟩:=HS.o w1 HBE.o;have hb7:=HB7.o.below HBE.o;have d7:=hb7.cell 0 rfl;have f7:=hb7.free 0;clear hb7;cases p with
  | true=>
   go_wp2;go_ret;exact ⟨true,rfl,fun _=>⟨w1,HBE.o,rfl⟩,(fun h=>by cases h)⟩
  | false=>
   go_wp2;go_ret;exact ⟨false,rfl,(fun h=>by cases h),fun _=>HBE.o⟩
def Za7 (es:List Ent) (a b:List UInt8):List UInt8:=
 if subE es a b then b else if subE es b a then a else match (Zal es (derE es a)).find? (fun x=>subE es b (nmE es x)) with
  | some x=>nmE es x
  | none=>[]
theorem ZhN {α:Type} {p:α->Bool} {l:List α} {k:Nat} {x:α} (hx:l[k]? = some x) (hn:∀ j y,j<k->l[j]? = some y->p y=false) (hp:p x=true):l.find? p=some x:=by
 rw [List.find?_eq_some_iff_getElem];obtain ⟨hk,he⟩:=Yag.1 hx;exact ⟨hp,k,hk,he,fun j hj=>by rw [hn j _ hj (Yaa (by omega))];rfl⟩
theorem Zmv {es:List Ent} {l:List UInt8} {i:Nat} (h:derE es l=some i):i<es.length:=by
 unfold derE at h;split at h
 ·exact ZaU h
 ·exact ZaU h
def Zrm (es:List Ent) (b:List UInt8) (L:List Nat) (w:World) (k:Nat) (w':World):Prop:=Below w.heap.size w w'/\∀ j y,j<k->L[j]? = some y->subE es b (nmE es y)=false
def Zrn (es:List Ent) (b:List UInt8) (L:List Nat) (w:World) (c:Nat) (w':World):Prop:=∃ x,L.find? (fun x=>subE es b (nmE es x))=some x/\Hit c (nmE es x) w w'
theorem ZhV {A:Nat->Prop} {B:Nat->Nat} {T mb:Nat} {es:List Ent} {w0:World} (hT:Tab A w0 T mb B es) (hS:Shape es) (b:List UInt8) (o:Option Nat) (ho:∀ i,o=some i->i<es.length) (w:World) (hw:Below w0.heap.size w0 w) (hb:b.length<=9223372036854775807)
  (c3 c5 c7:Nat) (v7:Value) (h3:w.cell? ⟨c3,0,none⟩=some (.pointer (some ⟨T,0,none⟩))) (h5:w.cell? ⟨c5,0,none⟩=some (.string (S b))) (h7:Box w c7 #[v7] 9) :
  Calls Tryz.prog 125 #[ptrV B o,.func (.func 126) #[] #[.pointer (some ⟨c3,0,none⟩),.pointer (some ⟨c5,0,none⟩),.pointer (some ⟨c7,0,none⟩)]] w
   (YesNo (fun w'=>∃ x,(Zal es o).find? (fun x=>subE es b (nmE es x))=some x/\Hit c7 (nmE es x) w w') (fun w'=>(Zal es o).find? (fun x=>subE es b (nmE es x))=none/\Below w.heap.size w w')):=by
 have hc:=hS.line o ho;refine (Zfa hT _ _ (Zal es o) o (Zrm es b (Zal es o) w) (fun _=>Zrn es b (Zal es o) w c7) w (Zah Tryz.func126 (by kernel_rfl) rfl) hc (fun k w' h=>hw.trans (h.1.mono hw.size)) ⟨Yab _ _,fun j y hj=>by omega⟩ (fun k x w' hx hj=>?_)).mono fun e w' q=>q.mono' (fun ⟨k,_,h⟩=>h) (fun h=>?_)
 ·obtain ⟨e,he⟩:=Zbg hc x (Yad hx);have ho:=Yaf (S:=fun _=>False) hj.1;refine (Zm7 hT hS b x (Yag.1 he).1 w' (hw.trans (hj.1.mono hw.size)) hb c3 c5 c7 v7 (ho.cell h3 id) (ho.cell h5 id) (h7.below hj.1)).mono fun e w'' q=>q.mono' (fun ⟨h1,w1,h2,h4⟩=>?_) (fun ⟨h1,h2⟩=>?_)
  ·exact ⟨x,ZhN hx hj.2 h1,w1,hj.1.trans (h2.mono hj.1.size),h4⟩
  ·refine ⟨hj.1.trans (h2.mono hj.1.size),fun j y hjk hy=>?_⟩;rcases YaE j k with h|h
   ·exact hj.2 j y h hy
   ·obtain rfl:j=k:=by omega
    have:(Zal es o)[j]? = some x:=hx;rw [this] at hy;rw [←Yae hy];exact h1
 ·refine ⟨?_,h.1⟩;rw [Yby];intro y hy;obtain ⟨j,hj⟩:=YbD hy;have:=h.2 j y (Yag.1 hj).1 hj;simp [this]
theorem Zna {A:Nat->Prop} {B:Nat->Nat} {T mb:Nat} {es:List Ent} {w0:World} (hT:Tab A w0 T mb B es) (hS:Shape es) (a b:List UInt8) (w:World) (hw:Below w0.heap.size w0 w) (ha:a.length<=281474976710656) (hb:b.length<=281474976710656) :
  Calls Tryz.prog 58 #[.pointer (some ⟨T,0,none⟩),.string (S a),.string (S b)] w (ZbT (Za7 es a b) w):=by
 have hmf:∀ (fn:Fn) (first cap:Array Value) (w:World),(Instr.makeFunc fn first cap).run Tryz.prog w=.ok (.func fn first cap) w:=fun _ _ _ _=>rfl
 have hb1:Below w.heap.size w (w.alloc (.cells #[.pointer (some ⟨T,0,none⟩)] 25)):=Zaa (Yab _ _) _;have hb2:Below w.heap.size w ((w.alloc (.cells #[.pointer (some ⟨T,0,none⟩)] 25)).alloc (.cells #[.string (S b)] 9)):=Zaa hb1 _;have HB2:=Hd hb2;have HX1:=Hd ((Box.new w #[.pointer (some ⟨T,0,none⟩)] 25).below (w':=(w.alloc (.cells #[.pointer (some ⟨T,0,none⟩)] 25)).alloc (.cells #[.string (S b)] 9)) (Zaa (Yab _ _) _));have HX2:Hid (Box ((w.alloc (.cells #[.pointer (some ⟨T,0,none⟩)] 25)).alloc (.cells #[.string (S b)] 9)) (w.heap.size+1) #[.string (S b)] 9):=Hd (by
  have q:=Box.new (w.alloc (.cells #[.pointer (some ⟨T,0,none⟩)] 25)) #[.string (S b)] 9
  simpa using q)
 have HW:=Hd (hw.trans (hb2.mono hw.size));have HS1:Hid (∀ w',Below w0.heap.size w0 w'->Calls Tryz.prog 123 #[.pointer (some ⟨T,0,none⟩),.string (S a),.string (S b)] w' (Said (subE es a b) w')):=Hd (fun w' h=>Zhm hT hS a b w' h (by omega) (by omega));have HS2:Hid (∀ w',Below w0.heap.size w0 w'->Calls Tryz.prog 123 #[.pointer (some ⟨T,0,none⟩),.string (S b),.string (S a)] w' (Said (subE es b a) w')):=Hd (fun w' h=>Zhm hT hS b a w' h (by omega) (by omega));have HD:Hid (∀ w',Below w0.heap.size w0 w'->Calls Tryz.prog 124 #[.pointer (some ⟨T,0,none⟩),.string (S a)] w' (Zp5 (ptrV B (derE es a)) w')):=Hd (fun w' h=>ZiS hT a w' h (by omega));have HL:Hid (∀ (w':World) (c3 c5 c7:Nat) (v7:Value),Below w0.heap.size w0 w'->w'.cell? ⟨c3,0,none⟩=some (.pointer (some ⟨T,0,none⟩))->w'.cell? ⟨c5,0,none⟩=some (.string (S b))->Box w' c7 #[v7] 9->
   Calls Tryz.prog 125 #[ptrV B (derE es a),.func (.func 126) #[] #[.pointer (some ⟨c3,0,none⟩),.pointer (some ⟨c5,0,none⟩),.pointer (some ⟨c7,0,none⟩)]] w'
   (YesNo (fun w''=>∃ x,(Zal es (derE es a)).find? (fun x=>subE es b (nmE es x))=some x/\Hit c7 (nmE es x) w' w'') (fun w''=>(Zal es (derE es a)).find? (fun x=>subE es b (nmE es x))=none/\Below w'.heap.size w' w''))):=
  Hd (fun w' c3 c5 c7 v7 h q3 q5 q7=>ZhV hT hS b (derE es a) (fun i hi=>Zmv hi) w' h (by omega) c3 c5 c7 v7 q3 q5 q7)
 have HCA:=Hd (fun w=>ZaG (S a) w (by rw [ZaB];exact ha));have HCB:=Hd (fun w=>ZaG (S b) w (by rw [ZaB];exact hb));unfold ZbT;obtain ⟨R,hR⟩:∃ R,R=Za7 es a b:=⟨_,rfl⟩
 rw [←hR];unfold Za7 at hR;generalize subE es a b=s1 at HS1 hR;generalize subE es b a=s2 at HS2 hR;have HR:=Hd hR;clear hR hw hT hS ha hb hb1 hb2;unfold Zp5 at HD;obtain ⟨vd,hvd⟩:=ZdY B (derE es a);rw [hvd] at HD HL;clear hvd;generalize (Zal es (derE es a)).find? (fun x=>subE es b (nmE es x))=F at HL HR;go_enter Tryz.func58,Tryz.ntmps58
 go_upto_region 1 with fail
 generalize (w.alloc (.cells #[.pointer (some ⟨T,0,none⟩)] 25)).alloc (.cells #[.string (S b)] 9)=W1 at HB2 HX1 HX2 HW ⊢;generalize w.heap.size+1=c5 at HX2 ⊢;obtain ⟨c3,hc3⟩:∃ c,c=w.heap.size:=⟨_,rfl⟩
 rw [←hc3] at HX1 ⊢;clear hc3;have x1:=HX1.o.cell 0 rfl;have x2:=HX2.o.cell 0 rfl
 go_wp2_with fail
 refine (HS1.o W1 HW.o).mono ?_;rintro e w2 ⟨rfl,hb2⟩;have HB3:=Hd hb2;clear hb2 x1 x2 HS1;have x1:=(HX1.o.below HB3.o).cell 0 rfl;have x2:=(HX2.o.below HB3.o).cell 0 rfl;cases s1 with
 | true=>
  obtain rfl:R=b:=HR.o
  go_wp2_with fail
  refine (HCB.o _).mono ?_;rintro e w3 ⟨rfl,hb3⟩;have HB4:=Hd (HB2.o.trans ((HB3.o.trans (hb3.mono HB3.o.size)).mono HB2.o.size));clear hb3 x1 x2;go_wp2;go_ret;exact ⟨rfl,HB4.o⟩
 | false=>
  have HW2:=Hd (HW.o.trans (HB3.o.mono HW.o.size))
  go_wp2_with fail
  refine (HS2.o w2 HW2.o).mono ?_;rintro e w3 ⟨rfl,hb3⟩;have HB4:=Hd (HB3.o.trans (hb3.mono HB3.o.size));clear hb3 x1 x2 HS2 HB3;cases s2 with
  | true=>
   obtain rfl:R=a:=HR.o
   go_wp2_with fail
   refine (HCA.o _).mono ?_;rintro e w4 ⟨rfl,hb4⟩;have HB5:=Hd (HB2.o.trans ((HB4.o.trans (hb4.mono HB4.o.size)).mono HB2.o.size));clear hb4;go_wp2;go_ret;exact ⟨rfl,HB5.o⟩
  | false=>
   have HW3:=Hd (HW.o.trans (HB4.o.mono HW.o.size));have hbn:=Zaa (Yab w3.heap.size w3) (.cells #[.string ⟨#[]⟩] 9);have HX7:=Hd (Box.new w3 #[.string ⟨#[]⟩] 9);have HB5:=Hd (HB4.o.trans (hbn.mono HB4.o.size));have HBN:=Hd hbn;have HW4:=Hd (HW3.o.trans (hbn.mono HW3.o.size));clear hbn
   go_upto_region 6 with fail
   generalize w3.alloc (.cells #[.string ⟨#[]⟩] 9)=W4 at HX7 HB5 HBN HW4 ⊢;obtain ⟨c7,hc7⟩:∃ c,c=w3.heap.size:=⟨_,rfl⟩
   have HC7:=Hd hc7;rw [←hc7] at HX7 ⊢;clear hc7;have x1:=(HX1.o.below HB5.o).cell 0 rfl
   go_wp2_with fail
   refine (HD.o W4 HW4.o).mono ?_;rintro e w5 ⟨rfl,hb5⟩;have HB6:=Hd hb5;clear hb5 x1;have HW5:=Hd (HW4.o.trans (HB6.o.mono HW4.o.size));have HB7:=Hd (HB5.o.trans (HB6.o.mono HB5.o.size));have HLC:=Hd (HL.o w5 c3 c5 c7 _ HW5.o ((HX1.o.below HB7.o).cell 0 rfl) ((HX2.o.below HB7.o).cell 0 rfl) (HX7.o.below HB6.o))
   go_wp2_with fail
   refine HLC.o.mono ?_;rintro e w6 ⟨bb,rfl,hy,hno⟩;cases bb with
   | true=>
    obtain ⟨x,hx,w7,hb7,rfl⟩:=hy rfl;have hf:R=nmE es x:=by rw [HR.o,hx];rfl
    have hbx:=(HX7.o.below HB6.o).below hb7;have x7:(w7.setCell ⟨c7,0,none⟩ (.string (S (nmE es x)))).cell? ⟨c7,0,none⟩=some (.string (S (nmE es x))):=(hbx.set 0 (.string (S (nmE es x)))).cell 0 rfl;have hfin:Below w.heap.size w (w7.setCell ⟨c7,0,none⟩ (.string (S (nmE es x)))):=by
     have h1:=HB2.o.trans ((HB7.o.trans (hb7.mono HB7.o.size)).mono HB2.o.size);have h2:=HB2.o.size;have h3:=HB4.o.size;have h4:=HC7.o;exact h1.setCell (by show w.heap.size<=c7;omega) _
    rw [←hf] at x7 hfin ⊢;have HFI:=Hd hfin;clear hy hno hx hf hbx hfin hb7;go_wp2;go_ret;exact ⟨rfl,HFI.o⟩
   | false=>
    obtain ⟨hx,hb7⟩:=hno rfl;obtain rfl:R=[]:=by rw [HR.o,hx];rfl
    have x7:=((HX7.o.below HB6.o).below hb7).cell 0 rfl;have HFI:=Hd (HB2.o.trans ((HB7.o.trans (hb7.mono HB7.o.size)).mono HB2.o.size));clear hy hno hx hb7;go_wp2;go_ret;exact ⟨rfl,HFI.o⟩
section
variable {P:Program} {w:World}
theorem ZaZ {ops:Array Oper} {o:Oper} {a:Act} {K:Act->World->Prop} {Q:Exit->Act->World->Prop} {E:Prop} (hgd:o.guard=none) (s x:Operand) (t:TypeId)
  (ho:o.op=.call { callee:=.builtin .append,args:=#[s,x],argTypes:=#[t,t] }) (sv xv v':Value) (w':World) (hs:a.eval s=sv) (hx:a.eval x=xv)
  (hrun:(Builtin.append_ #[t,t] o.type #[sv,xv]).run P w=.ok v' w') (h:K (a.put o.dst v') w') :
  if Region.wanted o (yielded ops a.tmps)=true then Oper.wp P o a w K Q else E:=by
 have hw:Region.wanted o (yielded ops a.tmps)=true:=by simp [Region.wanted,hgd]
 rw [YaA hw];unfold Oper.wp;simp only [execOp,ho,resolve,invoke,builtin,Sem.run_bind,Sem.run_pure,Result.andThen_ok,List.map_toArray,YbH,Ycs,hs,hx,hrun];exact h
theorem Zei (xs ys:List Value):ZaQ (xs++ys)=ZaQ xs++ZaQ ys:=by unfold ZaQ;rw [Yci]
theorem ZbM {α:Type} {f:α->Value} {n:Nat} (hn:0<n) (hsz:∀ x,(f x).cells.size=n) (hone:∀ x,∀ u ∈ (f x).cells.toList,u.oneCell'=true) (t ty e:TypeId) (i:TypeInfo) (z:Value) (bytes:Nat) (ht:P.underlying t=some (.slice e)) (hi:P.info? e=some i)
  (hz:i.zero=some z) (hsize:i.size=n) (hby:i.bytes=bytes) (hzs:z.cells.size=n) {A:Nat->Prop} {v sv:Value} {l1 l2:List α} {lo:Nat} (hT:TRow n e (Flat f) lo w v l1 (l1.map f)) (hlo:lo<=w.heap.size) (hs:Src n (Flat f) A w sv l2)
  (hlim:(l1.length+l2.length) * bytes<=140737488355328) (h63:l1.length+l2.length<=9223372036854775807) :
  ∃ v' w',(Builtin.append_ #[t,t] ty #[v,sv]).run P w=.ok v' w'/\TRow n e (Flat f) lo w' v' (l1++l2) ((l1++l2).map f)/\Grew w v w' v':=by
 rcases hs with ⟨ao,cap,rfl,rfl⟩|⟨b,o,cap,rfl,_,hc⟩
 ·exact ⟨v,w,ZbK w t ty e i n ht hi v _ _ hT.row ao cap,by rw [Ya3];exact hT,Grew.refl _ _⟩
 ·have hsv:∀ u ∈ l2.map f,u.cells.size=n:=fun u hu=>by obtain ⟨x,_,rfl⟩:=Ybc.1 hu;exact hsz x
  have hlen:(ZaQ (l2.map f)).length=l2.length * n:=by rw [ZcD _ hsv,YaB]
  have hnews:∀ (j:Nat) u,(ZaQ (l2.map f))[j]? = some u->w.cell? ((⟨b,o,none⟩:Addr).add j)=some u:=by
   intro j u hj;have hjl:j<l2.length * n:=by rw [←hlen];exact (Yag.1 hj).1
   have hk:j / n<l2.length:=(Nat.div_lt_iff_lt_mul hn).2 hjl;have hjm:j % n<n:=Nat.mod_lt _ hn;have hje:j=j / n * n+j % n:=by rw [Nat.mul_comm];exact (Nat.div_add_mod j n).symm
   obtain ⟨v0,hv0,_,hcl⟩:=hc (j / n) _ (Yaa hk);obtain rfl:=hv0;have hat:=ZcN (n:=n) (l2.map f) (j / n) (j % n) (f l2[j / n]) hsv (by rw [Yaw,Yaa hk];rfl) hjm;rw [←hje,hj] at hat;have q:=hcl (j % n) u hat.symm;rw [Ybq];rw [Nat.add_assoc,←hje] at q;exact q
  have h1:∀ u ∈ ZaQ (l2.map f),u.oneCell'=true:=fun u hu=>by
   unfold ZaQ at hu;obtain ⟨y,hy,hu⟩:=YbB.1 hu;obtain ⟨x,_,rfl⟩:=Ybc.1 hy;exact hone x u hu
  obtain ⟨v',w',hr,hrow,hg⟩:=Zbr (P:=P) w t ty e i z n bytes ht hi hz hsize hby hzs hn v l1.length _ hT.row ⟨b,o,none⟩ l2.length cap _ hlen hnews h1 (by unfold maxLen;omega) hlim;refine ⟨v',w',hr,⟨?_,fun g hgo=>?_,by simp,fun u hu=>?_,fun k x hx=>?_⟩,hg⟩
  ·rw [Ybb,Zei,Yal];exact hrow
  ·rcases hg.came with e1|e1
   ·exact hT.own g (e1 ▸ hgo)
   ·exact Yan hlo (e1 g hgo)
  ·obtain ⟨x,_,rfl⟩:=Ybc.1 hu;exact hsz x
  ·exact ⟨f x,by rw [Yaw,hx];rfl,rfl⟩
end
