/- laws -/
import Derived.Test.YtggcdinoflchjaaGreatDoorK74
set_option maxRecDepth 100000
set_option maxHeartbeats 16000000
namespace Go.Proofs.YtggcdinoflchjaaGreatDoor
open Go.RowKit
def intL:List UInt8:=[105,110,116]
theorem Zo4 (cs:Array Value) (x y v:Value):((cs.setIfInBounds 11 x).setIfInBounds 13 y).setIfInBounds 11 v=(cs.setIfInBounds 11 v).setIfInBounds 13 y:=by
 refine Yci (fun j=>?_);simp only [YaD,Array.size_setIfInBounds];by_cases h1:11=j
 ·subst h1;simp
 ·by_cases h2:13=j
  ·subst h2;simp
  ·simp [h1,h2]
theorem Zi7 {W:World} {b:Nat} {t:TypeId} (x:List UInt8) (h:Box W b #[.string (S x)] t):Src 1 StrR (fun k=>k=b) W (.slice (some ⟨b,0,none⟩) 1 1) [x]:=
 .inr ⟨b,0,1,rfl,⟨rfl,h.lt,Yac _,by decide⟩,fun k y hy=>by
  match k,hy with
  | 0,hy=>
   obtain rfl:=Yae hy;refine ⟨strV x,rfl,rfl,fun j u hj=>?_⟩;have hj0:j=0:=by have:j<(strV x).cells.size:=(Ybu.1 hj).1;simp [Value.cells] at this;exact this
   subst hj0;have hu:u=strV x:=by simpa [Value.cells] using hj.symm
   subst hu;exact h.cell 0 rfl
  | k+1,hy=>cases hy⟩
structure Stands (w0:World) (T X:Nat) (l:List (Nat × Nat × List UInt8)) (W:World):Prop where
 bel:Below w0.heap.size w0 W
 tab:W.cell? ⟨X,0,none⟩=some (.pointer (some ⟨T,0,none⟩))
 box:∀ c1 c2 o,(c1,c2,o) ∈ l->c1 ≠ X/\c2 ≠ X/\Box W c1 #[.pointer (some ⟨X,0,none⟩)] 74/\Box W c2 #[.string (S o)] 9
theorem Stands.below {w0:World} {T X:Nat} {l:List (Nat × Nat × List UInt8)} {W W':World} (h:Stands w0 T X l W) (hb:Below W.heap.size W W'):Stands w0 T X l W':=
 ⟨h.bel.trans (hb.mono h.bel.size),(Yad (S:=fun _=>False) hb).cell h.tab id,fun c1 c2 o hm=>by obtain ⟨h1,h2,h3,h4⟩:=h.box c1 c2 o hm;exact ⟨h1,h2,h3.below hb,h4.below hb⟩⟩
theorem Stands.set {w0:World} {T X:Nat} {l:List (Nat × Nat × List UInt8)} {W:World} (h:Stands w0 T X l W) (hX:w0.heap.size<=X) (j:Nat) (hj:j ≠ 0) (v:Value):Stands w0 T X l (W.setCell ⟨X,j,none⟩ v):=
 ⟨h.bel.setCell hX v,by rw [World.cell?_setCell_other W ⟨X,j,none⟩ ⟨X,0,none⟩ v (by intro e;injection e with _ e;exact hj e)];exact h.tab,
  fun c1 c2 o hm=>by obtain ⟨h1,h2,h3,h4⟩:=h.box c1 c2 o hm;exact ⟨h1,h2,h3.set_ne h1 j v,h4.set_ne h2 j v⟩⟩
def subT (p:Nat × Nat × List UInt8):Zqq:=⟨195,#[],#[.pointer (some ⟨p.1,0,none⟩),.pointer (some ⟨p.2.1,0,none⟩)]⟩
theorem Zlj {A:Nat->Prop} {B:Nat->Nat} {T mb:Nat} {es:List Ent} {w0:World} (hT:Tab A w0 T mb B es) (hS:Shape es) (X lo tb mc m:Nat) (cs:Array Value) (sv:Value) (stk:List (List UInt8)) (l:List (Nat × Nat × List UInt8)) (w:World) (hml:m=l.length)
  (hX0:w0.heap.size<=X) (hx:Box w X cs 76) (hcs:cs.size=14) (h11:cs[11]? = some sv) (h13:cs[13]? = some (.int .i64 0)) (hk:KR lo w sv stk) (hne:sv.ownBlock ≠ some X) (hm1:1<=l.length) (hm:l.length<=stk.length) (hs:stk.length<=1048576)
  (htb:∀ i p,l[i]? = some p->w.cell? ⟨tb,i,none⟩=some (.func (.func 195) #[] #[.pointer (some ⟨p.1,0,none⟩),.pointer (some ⟨p.2.1,0,none⟩)])) (htX:tb ≠ X) (hI:Stands w0 T X l w) (ho:∀ p ∈ l,p.2.2.length<=9223372036854775807) (hsl:∀ x ∈ stk,x.length<=9223372036854775807) :
  Calls Tryz.prog 132 #[.pointer (some ⟨X,0,none⟩),.slice (some ⟨tb,0,none⟩) m mc] w (fun e w'=>∃ tv cv,e=.returned tv/\Src 1 StrR (fun k=>w.heap.size<=k) w' tv (stk.drop (stk.length - l.length))/\
   Box w' X ((cs.setIfInBounds 11 cv).setIfInBounds 13 (.int .i64 (errT (fun i=>subE es (stk.getD (stk.length - l.length+i) []) (l.getD i (0,0,[])).2.2) l.length:Nat))) 76/\
   KR lo w' cv (stk.take (stk.length - l.length))/\cv.ownBlock=sv.ownBlock/\Stands w0 T X l w'/\Only (fun i=>i=X) w w'):=by
 subst hml;have hlen:(l.map subT).length=l.length:=Yaz ..;have h:=Zo9 X lo tb mc cs sv stk (l.map subT) (fun i=>subE es (stk.getD (stk.length - l.length+i) []) (l.getD i (0,0,[])).2.2) (fun _ W=>Stands w0 T X l W) (fun _=>False) w hx hcs h11 h13 hk hne (by rw [hlen];exact hm1) (by rw [hlen];exact hm) hs
  (fun i t ht=>by
   rw [Yau] at ht;obtain ⟨p,hp,rfl⟩:=YaU.1 ht;exact htb i p hp) htX
  (fun t ht=>by
   obtain ⟨p,_,rfl⟩:=Ya6.1 ht;exact Zai Tryz.func195 (by kernel_rfl) rfl) hI
  (fun _ W W' h hb=>h.below hb) (fun _ W v h=>⟨h.set hX0 13 (by decide) v,h.set hX0 11 (by decide) v⟩)
  (fun i t s ht hs W hW=>by
   rw [hlen] at hs;rw [Yau] at ht;obtain ⟨p,hp,rfl⟩:=YaU.1 ht;obtain ⟨c1,c2,o⟩:=p;obtain ⟨_,_,b1,b2⟩:=hW.box c1 c2 o (Yaf hp);have hc:=ZnK hT hS X c1 c2 o s W hW.bel (ho _ (Yaf hp)) (hsl s (Yaf hs)) (b1.cell 0 rfl) (b2.cell 0 rfl) hW.tab;have e1:(stk.getD (stk.length - l.length+i) [])=s:=by rw [Yam,hs];rfl
   have e2:(l.getD i (0,0,[])).2.2=o:=by rw [Yam,hp];rfl
   rw [e1,e2];have e3:((subT (c1,c2,o)).first.push (Value.string (S s))++(subT (c1,c2,o)).caps)=#[.string (S s),.pointer (some ⟨c1,0,none⟩),.pointer (some ⟨c2,0,none⟩)]:=by simp [subT]
   rw [e3];exact hc.mono (fun e W' ⟨q1,q2⟩=>⟨q1,hW.below q2,Yad q2⟩))
  (fun _ h=>h.elim)
 rw [hlen] at h;exact h.mono (fun e w' ⟨tv,cv,q1,q2,q3,q4,q5,q6,q7,_⟩=>⟨tv,cv,q1,q2,q3,q4,q5,q6,q7.mono (fun i _ e=>by rcases e with e|e;exact e;exact e.elim)⟩)
theorem Zj2 {A:Nat->Prop} {B:Nat->Nat} {T mb:Nat} {es:List Ent} {w0:World} (hT:Tab A w0 T mb B es) (hS:Shape es) (X lo:Nat) (cs:Array Value) (sv:Value) (q:List (List UInt8)) (a b:List UInt8) (w:World)
  (hw:Below w0.heap.size w0 w) (hX0:w0.heap.size<=X) (hx:Box w X cs 76) (hcs:cs.size=14) (h0:cs[0]? = some (.pointer (some ⟨T,0,none⟩))) (h11:cs[11]? = some sv) (h13:cs[13]? = some (.int .i64 0)) (hk:KR lo w sv (q++[a,b])) (hne:sv.ownBlock ≠ some X) (hlo:lo<=w.heap.size)
  (hs:q.length<=1000) (ha:subE es a intL=true) (hb:subE es b intL=true) (hsl:∀ x ∈ q++[a,b],x.length<=9223372036854775807) :
  Calls Tryz.prog 74 #[.pointer (some ⟨X,0,none⟩)] w (fun e w'=>e=.returned (.tuple #[])/\∃ v',Box w' X ((cs.setIfInBounds 11 v').setIfInBounds 13 (.int .i64 0)) 76/\KR lo w' v' (q++[intL])/\v'.ownBlock ≠ some X/\Only (fun i=>i=X\/sv.ownBlock=some i) w w'/\(v'.ownBlock=sv.ownBlock\/∀ g,v'.ownBlock=some g->w.heap.size<=g)):=by
 have HSB:Hid (∀ W,Calls Tryz.prog 135 #[.pointer (some ⟨X,0,none⟩),.string ⟨#[105,110,116]⟩] W (SubG X intL W)):=Hd (fun W=>Zo8 X intL W);unfold SubG at HSB;have HT:=Hd hT;have HS:=Hd hS;have HW:=Hd hw;have HX0:=Hd hX0;have HX:=Hd hx;have HCS:=Hd hcs;have H0:=Hd h0;have H11:=Hd h11;have H13:=Hd h13;have HK:=Hd hk;have HNE:=Hd hne;have HA:=Hd ha;have HB:=Hd hb;have HL:=Hd hs;have HLO:=Hd hlo;have HSL:=Hd hsl;clear hT hS hw hX0 hx hcs h0 h11 h13 hk hne ha hb hs hsl hlo;go_enter Tryz.func74,Tryz.ntmps74
 go_wp2_with fail
 with_reducible refine (HSB.o w).mono ?_
 rintro e w1 ⟨c1,c2,rfl,x1,x2,g1,g2,b1⟩
 go_wp2_with fail
 with_reducible refine (HSB.o w1).mono ?_
 rintro e w2 ⟨c3,c4,rfl,x3,x4,g3,g4,b2⟩;have B2:=Hd (b1.trans (b2.mono b1.size));have b3:Below w2.heap.size w2 (w2.alloc (.cells #[.func (.func 195) #[] #[.pointer (some ⟨c1,0,none⟩),.pointer (some ⟨c2,0,none⟩)],.func (.func 195) #[] #[.pointer (some ⟨c3,0,none⟩),.pointer (some ⟨c4,0,none⟩)]] 54)):=Zaa (Yab _ _) _;have bx:=Box.new w2 #[.func (.func 195) #[] #[.pointer (some ⟨c1,0,none⟩),.pointer (some ⟨c2,0,none⟩)],.func (.func 195) #[] #[.pointer (some ⟨c3,0,none⟩),.pointer (some ⟨c4,0,none⟩)]] 54;have hXl:=HX.o.lt;have hb23:Below w.heap.size w (w2.alloc (.cells #[.func (.func 195) #[] #[.pointer (some ⟨c1,0,none⟩),.pointer (some ⟨c2,0,none⟩)],.func (.func 195) #[] #[.pointer (some ⟨c3,0,none⟩),.pointer (some ⟨c4,0,none⟩)]] 54)):=B2.o.trans (b3.mono B2.o.size);have hst:Stands w0 T X [(c1,c2,intL),(c3,c4,intL)] (w2.alloc (.cells #[.func (.func 195) #[] #[.pointer (some ⟨c1,0,none⟩),.pointer (some ⟨c2,0,none⟩)],.func (.func 195) #[] #[.pointer (some ⟨c3,0,none⟩),.pointer (some ⟨c4,0,none⟩)]] 54)):=⟨HW.o.trans (hb23.mono HW.o.size),(Yad (S:=fun _=>False) hb23).cell (HX.o.cell 0 H0.o) id,fun d1 d2 o hm=>by
  have h1:=b1.size;simp only [Yav,Ya9,or_false,Prod.mk.injEq] at hm;rcases hm with ⟨rfl,rfl,rfl⟩|⟨rfl,rfl,rfl⟩
  ·exact ⟨by omega,by omega,(x1.below b2).below b3,(x2.below b2).below b3⟩
  ·exact ⟨by omega,by omega,x3.below b3,x4.below b3⟩⟩
 have hsz2:=B2.o.size;have HTK:=Hd (Zlj HT.o HS.o X lo w2.heap.size 2 2 cs sv (q++[a,b]) [(c1,c2,intL),(c3,c4,intL)] (w2.alloc (.cells #[.func (.func 195) #[] #[.pointer (some ⟨c1,0,none⟩),.pointer (some ⟨c2,0,none⟩)],.func (.func 195) #[] #[.pointer (some ⟨c3,0,none⟩),.pointer (some ⟨c4,0,none⟩)]] 54)) rfl HX0.o (HX.o.below hb23) HCS.o H11.o H13.o (HK.o.below hb23) HNE.o (by simp) (by simp) (by have:=HL.o;simp;omega)
  (fun i p hp=>by
   match i,hp with
   | 0,hp=>obtain rfl:=Yae hp;exact bx.cell 0 rfl
   | 1,hp=>obtain rfl:=Yae hp;exact bx.cell 1 rfl
   | i+2,hp=>cases hp) (by omega) hst (fun p hp=>by simp only [Yav,Ya9,or_false] at hp;rcases hp with rfl|rfl <;> simp [intL]) HSL.o)
 have HB23:=Hd hb23;clear x1 x2 x3 x4 g1 g2 g3 g4 b1 b2 b3 bx hst hb23
 go_wp2_with fail
 with_reducible refine HTK.o.mono ?_
 rintro e w4 ⟨tv,cv,rfl,hsr,hbx,hkr,hown,hI4,ho4⟩;have e0:(q++[a,b]).length - [(c1,c2,intL),(c3,c4,intL)].length=q.length:=by simp
 have e1:errT (fun i=>subE es ((q++[a,b]).getD (q.length+i) []) ([(c1,c2,intL),(c3,c4,intL)].getD i (0,0,[])).2.2) [(c1,c2,intL),(c3,c4,intL)].length=0:=by
  have q0:(q++[a,b]).getD (q.length+0) []=a:=by rw [Yam,YaH (by omega)];simp
  have q1:(q++[a,b]).getD (q.length+1) []=b:=by rw [Yam,YaH (by omega)];simp
  show reqE (reqE 0 (subE es ((q++[a,b]).getD (q.length+0) []) intL) 73) (subE es ((q++[a,b]).getD (q.length+1) []) intL) 73=0
  rw [q0,q1,HA.o,HB.o];rfl
 have e2:(q++[a,b]).take q.length=q:=by rw [YbC (Yac _),YaJ]
 rw [e0] at hbx hkr;rw [e1] at hbx;rw [e2] at hkr;have hbA:Below w4.heap.size w4 (w4.alloc (.cells #[.string (S intL)] 9)):=Zaa (Yab _ _) _;have h4s:=ho4.size;have HPU:=Hd (Znp X lo _ cv (.slice (some ⟨w4.heap.size,0,none⟩) 1 1) q [intL] (w4.alloc (.cells #[.string (S intL)] 9)) (fun k=>k=w4.heap.size) (hbx.below hbA) (by simp [HCS.o]) (show _=some cv by
   rw [YaD,Yas (by decide)];exact Znz H11.o) (hkr.below hbA) (by have h1:=HB23.o.size;have h2:=HLO.o;have h3:=hbA.size;omega) (by rw [hown];exact HNE.o)
  (Zi7 intL (Box.new w4 #[.string (S intL)] 9)) (fun i hi=>by
   have h1:=B2.o.size;have h2:=HB23.o.size;refine ⟨by omega,fun e=>?_⟩;have h3:=(HK.o.own i (by rw [←hown];exact e)).2;omega) (by have:=HL.o;simp;omega) (fun x hx=>by simp only [Yav,Ya9,or_false] at hx;subst hx;decide))
 have HO4:=Hd ho4;have HOWN:=Hd hown;clear hsr hbx hkr hown hI4 ho4 e0 e1 e2 HTK
 go_wp2_with fail
 refine HPU.o.mono ?_;rintro e w5 ⟨rfl,v5,hb5,hk5,hn5,ho5,hc5⟩;rw [Zo4] at hb5;have HO5:Hid (Only (fun i=>i=X\/sv.ownBlock=some i) w w5):=Hd (by
  have h1:Only (fun i=>i=X\/sv.ownBlock=some i) w w4:=(Yad (S:=fun i=>i=X\/sv.ownBlock=some i) HB23.o).then HO4.o (fun i _ e=>.inl e);have h2:=h1.alloc (.cells #[.string (S intL)] 9);refine h2.then ho5 (fun i _ e=>?_);rw [HOWN.o] at e;exact e)
 have HB5:=Hd hb5;have HK5:=Hd hk5;have HN5:=Hd hn5;have HC5:Hid (v5.ownBlock=sv.ownBlock\/∀ g,v5.ownBlock=some g->w.heap.size<=g):=Hd (by
  have h1:=HB23.o.size;rcases hc5 with r|r
  ·exact .inl (r.trans HOWN.o)
  ·exact .inr (fun g hg=>by have h2:=r g hg;have h3:(w4.alloc (.cells #[.string (S intL)] 9)).heap.size=w4.heap.size+1:=(by simp);omega))
 clear hb5 hk5 hn5 ho5 hc5 HPU;go_wp2
 go_end0
 exact ⟨rfl,v5,HB5.o,HK5.o,HN5.o,HO5.o,HC5.o⟩
structure StW (X lo:Nat) (p:Nat->Option Value) (w0 W:World) (stk loc:List (List UInt8)) (er:Nat):Prop where
 ex:∃ cs sv lv,cs.size=14/\(∀ j,j<11->cs[j]? = p j)/\cs[11]? = some sv/\cs[12]? = some lv/\cs[13]? = some (.int .i64 (er:Nat))/\Box W X cs 76/\KR lo W sv stk/\KR lo W lv loc/\sv.ownBlock ≠ some X/\lv.ownBlock ≠ some X/\(∀ g,sv.ownBlock=some g->lv.ownBlock ≠ some g)
 lo1:lo<=W.heap.size
 lo2:w0.heap.size<=lo
 lo3:lo<=X
 bel:Below w0.heap.size w0 W
theorem Zj3 {A:Nat->Prop} {B:Nat->Nat} {T mb:Nat} {es:List Ent} {w0:World} (hT:Tab A w0 T mb B es) (hS:Shape es) (X lo:Nat) (p:Nat->Option Value) (hp:p 0=some (.pointer (some ⟨T,0,none⟩))) (q loc:List (List UInt8)) (a b:List UInt8) (w:World) (h:StW X lo p w0 w (q++[a,b]) loc 0)
  (hs:q.length<=1000) (ha:subE es a intL=true) (hb:subE es b intL=true) (hsl:∀ x ∈ q++[a,b],x.length<=9223372036854775807) :
  Calls Tryz.prog 74 #[.pointer (some ⟨X,0,none⟩)] w (fun e w'=>e=.returned (.tuple #[])/\StW X lo p w0 w' (q++[intL]) loc 0/\Below lo w w'):=by
 obtain ⟨cs,sv,lv,h1,h2,h3,h4,h5,h6,h7,h8,h9,h10,h11⟩:=h.ex;refine (Zj2 hT hS X lo cs sv q a b w h.bel (Yaq h.lo2 h.lo3) h6 h1 (by rw [h2 0 (by decide)];exact hp) h3 h5 h7 h9 h.lo1 hs ha hb hsl).mono (fun e w' ⟨e1,v',k1,k2,k3,k4,k5⟩=>⟨e1,⟨⟨_,v',lv,?_,?_,?_,?_,?_,k1,k2,?_,k3,h10,?_⟩,Yaq h.lo1 k4.size,h.lo2,h.lo3,h.bel.trans (k4.below h.bel.size (fun i hi=>?_))⟩,k4.below h.lo1 (fun i hi=>?_)⟩)
 ·simp [h1]
 ·intro j hj;rw [YaD,Yas (by omega),YaD,Yas (by omega)];exact h2 j hj
 ·rw [YaD,Yas (by decide)];exact Znz h3
 ·rw [YaD,Yas (by decide),YaD,Yas (by decide)];exact h4
 ·rw [YaD,YaC rfl,YaC (by simp [h1])];rfl
 ·exact h8.keep k4 (fun g hg e=>by
   rcases e with e|e
   ·exact h10 (e ▸ hg)
   ·exact h11 g e hg)
 ·intro g hg e;rcases k5 with r|r
  ·exact h11 g (r ▸ hg) e
  ·have h12:=r g hg;have h13:=(h8.own g e).2;omega
 ·rcases hi with e|e
  ·rw [e];exact Yaq h.lo2 h.lo3
  ·exact Yaq h.lo2 (h7.own i e).1
 ·rcases hi with e|e
  ·rw [e];exact h.lo3
  ·exact (h7.own i e).1
def effL:List (List UInt8 × Nat):=[([105,110,116],65),
 ([116,114,117,101],66),
 ([102,97,108,115,101],66),
 ([119,111,114,100],67),
 ([110,117,108,108],68),
 ([108,111,97,100],69),
 ([115,116,111,114,101],70),
 ([112,111,112],71),
 ([100,117,112],72),
 ([115,119,97,112],73),
 ([97,100,100],74),
 ([115,117,98],74),
 ([109,117,108],74),
 ([100,105,118],74),
 ([114,101,109],74),
 ([97,110,100],74),
 ([111,114],74),
 ([120,111,114],74),
 ([115,104,108],74),
 ([115,104,114],74),
 ([110,101,103],75),
 ([108,101,115,115],76),
 ([115,97,109,101],76),
 ([110,111,116],77),
 ([98,111,116,104],78),
 ([106,111,105,110],79),
 ([106,117,109,112],80),
 ([98,114,97,110,99,104],81),
 ([111,117,116],82),
 ([110,101,119],83),
 ([103,101,116],84),
 ([112,117,116],85),
 ([99,97,108,108],86),
 ([97,114,114,97,121],87),
 ([97,116],88),
 ([115,101,116],89),
 ([115,105,122,101],90),
 ([105,115],91),
 ([99,97,115,116],92),
 ([101,113,117,97,108],93),
 ([114,101,116,117,114,110],94),
 ([116,104,114,111,119],95)]
abbrev fnV (F:Nat):Value:=.func (.func F) #[] #[]
noncomputable def effF (l:List (List UInt8 × Nat)):Lit->Value:=l.foldl (fun f p=>updF f (.string p.1) (fnV p.2)) (fun _=>.nilFunc)
noncomputable def effH (l:List (List UInt8 × Nat)):Lit->Bool:=l.foldl (fun f p=>updF f (.string p.1) true) (fun _=>false)
theorem Zqi (w:World):(zeroValue 70).run Tryz.prog w=.ok .nilFunc w:=by kernel_rfl
def EffM (w:World) (b:Nat) (l:List (List UInt8 × Nat)):Prop:=∃ m,m<=l.length/\MapF Tryz.prog 9 .nilFunc w b m (effF l) (effH l)
theorem EffM.store {w:World} {b:Nat} {l:List (List UInt8 × Nat)} (h:EffM w b l) (hl:l.length<=100) (op:List UInt8) (F:Nat) (ho:op.length<=9223372036854775807) :
  ∃ w',(Instr.mapUpdate 72 (.map (some b)) (.string (S op)) (fnV F)).run Tryz.prog w=.ok () w'/\EffM w' b (l++[(op,F)])/\Only (fun i=>i=b) w w'/\w'.heap.size=w.heap.size:=by
 obtain ⟨m,hm,q⟩:=h;obtain ⟨w',hr,q',ho',hs⟩:=q.store Za3 (t:=72) Tryz.underlying72 (by unfold maxLen;omega) (val:=fnV F) (ZcE op ho);refine ⟨w',hr,⟨if effH l (.string op)=true then m else m+1,?_,?_⟩,ho',hs⟩
 ·rw [Yak];split <;> simp <;> omega
 ·have e1:effF (l++[(op,F)])=updF (effF l) (.string op) (fnV F):=by unfold effF;rw [Ya8];rfl
  have e2:effH (l++[(op,F)])=updF (effH l) (.string op) true:=by unfold effH;rw [Ya8];rfl
  rw [e1,e2];exact q'
def EffG (w:World) (e:Ending) (w':World):Prop:=∃ b,e=.returned (.map (some b))/\w.heap.size<=b/\EffM w' b effL/\Below w.heap.size w w'
theorem Zit (w:World):Calls Tryz.prog 39 #[] w (EffG w):=by
 have hmm:=@run_makeMap Tryz.prog;have q0:EffM (w.alloc (.map #[] 0)) w.heap.size []:=⟨0,Yac _,MapF.new _ _ _ _⟩;have B0:Below w.heap.size w (w.alloc (.map #[] 0)):=Zaa (Yab _ _) _;obtain ⟨w1,r0,q1,o0,_⟩:=q0.store (by decide) [105,110,116] 65 (by decide);have B1:=B0.trans (o0.below B0.size (fun i e=>by rw [e];exact Yac _));clear o0 q0 B0
 change (Instr.mapUpdate 72 (.map (some w.heap.size)) (.string ⟨#[105,110,116]⟩) (fnV 65)).run Tryz.prog (w.alloc (.map #[] 0))=.ok () w1 at r0
 obtain ⟨w2,r1,q2,o1,_⟩:=q1.store (by decide) [116,114,117,101] 66 (by decide);have B2:=B1.trans (o1.below B1.size (fun i e=>by rw [e];exact Yac _));clear o1 q1 B1
 change (Instr.mapUpdate 72 (.map (some w.heap.size)) (.string ⟨#[116,114,117,101]⟩) (fnV 66)).run Tryz.prog w1=.ok () w2 at r1
 obtain ⟨w3,r2,q3,o2,_⟩:=q2.store (by decide) [102,97,108,115,101] 66 (by decide);have B3:=B2.trans (o2.below B2.size (fun i e=>by rw [e];exact Yac _));clear o2 q2 B2
 change (Instr.mapUpdate 72 (.map (some w.heap.size)) (.string ⟨#[102,97,108,115,101]⟩) (fnV 66)).run Tryz.prog w2=.ok () w3 at r2
 obtain ⟨w4,r3,q4,o3,_⟩:=q3.store (by decide) [119,111,114,100] 67 (by decide);have B4:=B3.trans (o3.below B3.size (fun i e=>by rw [e];exact Yac _));clear o3 q3 B3
 change (Instr.mapUpdate 72 (.map (some w.heap.size)) (.string ⟨#[119,111,114,100]⟩) (fnV 67)).run Tryz.prog w3=.ok () w4 at r3
 obtain ⟨w5,r4,q5,o4,_⟩:=q4.store (by decide) [110,117,108,108] 68 (by decide);have B5:=B4.trans (o4.below B4.size (fun i e=>by rw [e];exact Yac _));clear o4 q4 B4
 change (Instr.mapUpdate 72 (.map (some w.heap.size)) (.string ⟨#[110,117,108,108]⟩) (fnV 68)).run Tryz.prog w4=.ok () w5 at r4
 obtain ⟨w6,r5,q6,o5,_⟩:=q5.store (by decide) [108,111,97,100] 69 (by decide);have B6:=B5.trans (o5.below B5.size (fun i e=>by rw [e];exact Yac _));clear o5 q5 B5
 change (Instr.mapUpdate 72 (.map (some w.heap.size)) (.string ⟨#[108,111,97,100]⟩) (fnV 69)).run Tryz.prog w5=.ok () w6 at r5
 obtain ⟨w7,r6,q7,o6,_⟩:=q6.store (by decide) [115,116,111,114,101] 70 (by decide);have B7:=B6.trans (o6.below B6.size (fun i e=>by rw [e];exact Yac _));clear o6 q6 B6
 change (Instr.mapUpdate 72 (.map (some w.heap.size)) (.string ⟨#[115,116,111,114,101]⟩) (fnV 70)).run Tryz.prog w6=.ok () w7 at r6
 obtain ⟨w8,r7,q8,o7,_⟩:=q7.store (by decide) [112,111,112] 71 (by decide);have B8:=B7.trans (o7.below B7.size (fun i e=>by rw [e];exact Yac _));clear o7 q7 B7
 change (Instr.mapUpdate 72 (.map (some w.heap.size)) (.string ⟨#[112,111,112]⟩) (fnV 71)).run Tryz.prog w7=.ok () w8 at r7
 obtain ⟨w9,r8,q9,o8,_⟩:=q8.store (by decide) [100,117,112] 72 (by decide);have B9:=B8.trans (o8.below B8.size (fun i e=>by rw [e];exact Yac _));clear o8 q8 B8
 change (Instr.mapUpdate 72 (.map (some w.heap.size)) (.string ⟨#[100,117,112]⟩) (fnV 72)).run Tryz.prog w8=.ok () w9 at r8
 obtain ⟨w10,r9,q10,o9,_⟩:=q9.store (by decide) [115,119,97,112] 73 (by decide);have B10:=B9.trans (o9.below B9.size (fun i e=>by rw [e];exact Yac _));clear o9 q9 B9
 change (Instr.mapUpdate 72 (.map (some w.heap.size)) (.string ⟨#[115,119,97,112]⟩) (fnV 73)).run Tryz.prog w9=.ok () w10 at r9
 obtain ⟨w11,r10,q11,o10,_⟩:=q10.store (by decide) [97,100,100] 74 (by decide);have B11:=B10.trans (o10.below B10.size (fun i e=>by rw [e];exact Yac _));clear o10 q10 B10
 change (Instr.mapUpdate 72 (.map (some w.heap.size)) (.string ⟨#[97,100,100]⟩) (fnV 74)).run Tryz.prog w10=.ok () w11 at r10
 obtain ⟨w12,r11,q12,o11,_⟩:=q11.store (by decide) [115,117,98] 74 (by decide);have B12:=B11.trans (o11.below B11.size (fun i e=>by rw [e];exact Yac _));clear o11 q11 B11
 change (Instr.mapUpdate 72 (.map (some w.heap.size)) (.string ⟨#[115,117,98]⟩) (fnV 74)).run Tryz.prog w11=.ok () w12 at r11
 obtain ⟨w13,r12,q13,o12,_⟩:=q12.store (by decide) [109,117,108] 74 (by decide);have B13:=B12.trans (o12.below B12.size (fun i e=>by rw [e];exact Yac _));clear o12 q12 B12
 change (Instr.mapUpdate 72 (.map (some w.heap.size)) (.string ⟨#[109,117,108]⟩) (fnV 74)).run Tryz.prog w12=.ok () w13 at r12
 obtain ⟨w14,r13,q14,o13,_⟩:=q13.store (by decide) [100,105,118] 74 (by decide);have B14:=B13.trans (o13.below B13.size (fun i e=>by rw [e];exact Yac _));clear o13 q13 B13
 change (Instr.mapUpdate 72 (.map (some w.heap.size)) (.string ⟨#[100,105,118]⟩) (fnV 74)).run Tryz.prog w13=.ok () w14 at r13
 obtain ⟨w15,r14,q15,o14,_⟩:=q14.store (by decide) [114,101,109] 74 (by decide);have B15:=B14.trans (o14.below B14.size (fun i e=>by rw [e];exact Yac _));clear o14 q14 B14
 change (Instr.mapUpdate 72 (.map (some w.heap.size)) (.string ⟨#[114,101,109]⟩) (fnV 74)).run Tryz.prog w14=.ok () w15 at r14
 obtain ⟨w16,r15,q16,o15,_⟩:=q15.store (by decide) [97,110,100] 74 (by decide);have B16:=B15.trans (o15.below B15.size (fun i e=>by rw [e];exact Yac _));clear o15 q15 B15
 change (Instr.mapUpdate 72 (.map (some w.heap.size)) (.string ⟨#[97,110,100]⟩) (fnV 74)).run Tryz.prog w15=.ok () w16 at r15
 obtain ⟨w17,r16,q17,o16,_⟩:=q16.store (by decide) [111,114] 74 (by decide);have B17:=B16.trans (o16.below B16.size (fun i e=>by rw [e];exact Yac _));clear o16 q16 B16
 change (Instr.mapUpdate 72 (.map (some w.heap.size)) (.string ⟨#[111,114]⟩) (fnV 74)).run Tryz.prog w16=.ok () w17 at r16
 obtain ⟨w18,r17,q18,o17,_⟩:=q17.store (by decide) [120,111,114] 74 (by decide);have B18:=B17.trans (o17.below B17.size (fun i e=>by rw [e];exact Yac _));clear o17 q17 B17
 change (Instr.mapUpdate 72 (.map (some w.heap.size)) (.string ⟨#[120,111,114]⟩) (fnV 74)).run Tryz.prog w17=.ok () w18 at r17
 obtain ⟨w19,r18,q19,o18,_⟩:=q18.store (by decide) [115,104,108] 74 (by decide);have B19:=B18.trans (o18.below B18.size (fun i e=>by rw [e];exact Yac _));clear o18 q18 B18
 change (Instr.mapUpdate 72 (.map (some w.heap.size)) (.string ⟨#[115,104,108]⟩) (fnV 74)).run Tryz.prog w18=.ok () w19 at r18
 obtain ⟨w20,r19,q20,o19,_⟩:=q19.store (by decide) [115,104,114] 74 (by decide);have B20:=B19.trans (o19.below B19.size (fun i e=>by rw [e];exact Yac _));clear o19 q19 B19
 change (Instr.mapUpdate 72 (.map (some w.heap.size)) (.string ⟨#[115,104,114]⟩) (fnV 74)).run Tryz.prog w19=.ok () w20 at r19
 obtain ⟨w21,r20,q21,o20,_⟩:=q20.store (by decide) [110,101,103] 75 (by decide);have B21:=B20.trans (o20.below B20.size (fun i e=>by rw [e];exact Yac _));clear o20 q20 B20
 change (Instr.mapUpdate 72 (.map (some w.heap.size)) (.string ⟨#[110,101,103]⟩) (fnV 75)).run Tryz.prog w20=.ok () w21 at r20
 obtain ⟨w22,r21,q22,o21,_⟩:=q21.store (by decide) [108,101,115,115] 76 (by decide);have B22:=B21.trans (o21.below B21.size (fun i e=>by rw [e];exact Yac _));clear o21 q21 B21
 change (Instr.mapUpdate 72 (.map (some w.heap.size)) (.string ⟨#[108,101,115,115]⟩) (fnV 76)).run Tryz.prog w21=.ok () w22 at r21
 obtain ⟨w23,r22,q23,o22,_⟩:=q22.store (by decide) [115,97,109,101] 76 (by decide);have B23:=B22.trans (o22.below B22.size (fun i e=>by rw [e];exact Yac _));clear o22 q22 B22
 change (Instr.mapUpdate 72 (.map (some w.heap.size)) (.string ⟨#[115,97,109,101]⟩) (fnV 76)).run Tryz.prog w22=.ok () w23 at r22
 obtain ⟨w24,r23,q24,o23,_⟩:=q23.store (by decide) [110,111,116] 77 (by decide);have B24:=B23.trans (o23.below B23.size (fun i e=>by rw [e];exact Yac _));clear o23 q23 B23
 change (Instr.mapUpdate 72 (.map (some w.heap.size)) (.string ⟨#[110,111,116]⟩) (fnV 77)).run Tryz.prog w23=.ok () w24 at r23
 obtain ⟨w25,r24,q25,o24,_⟩:=q24.store (by decide) [98,111,116,104] 78 (by decide);have B25:=B24.trans (o24.below B24.size (fun i e=>by rw [e];exact Yac _));clear o24 q24 B24
 change (Instr.mapUpdate 72 (.map (some w.heap.size)) (.string ⟨#[98,111,116,104]⟩) (fnV 78)).run Tryz.prog w24=.ok () w25 at r24
 obtain ⟨w26,r25,q26,o25,_⟩:=q25.store (by decide) [106,111,105,110] 79 (by decide);have B26:=B25.trans (o25.below B25.size (fun i e=>by rw [e];exact Yac _));clear o25 q25 B25
 change (Instr.mapUpdate 72 (.map (some w.heap.size)) (.string ⟨#[106,111,105,110]⟩) (fnV 79)).run Tryz.prog w25=.ok () w26 at r25
 obtain ⟨w27,r26,q27,o26,_⟩:=q26.store (by decide) [106,117,109,112] 80 (by decide);have B27:=B26.trans (o26.below B26.size (fun i e=>by rw [e];exact Yac _));clear o26 q26 B26
 change (Instr.mapUpdate 72 (.map (some w.heap.size)) (.string ⟨#[106,117,109,112]⟩) (fnV 80)).run Tryz.prog w26=.ok () w27 at r26
 obtain ⟨w28,r27,q28,o27,_⟩:=q27.store (by decide) [98,114,97,110,99,104] 81 (by decide);have B28:=B27.trans (o27.below B27.size (fun i e=>by rw [e];exact Yac _));clear o27 q27 B27
 change (Instr.mapUpdate 72 (.map (some w.heap.size)) (.string ⟨#[98,114,97,110,99,104]⟩) (fnV 81)).run Tryz.prog w27=.ok () w28 at r27
 obtain ⟨w29,r28,q29,o28,_⟩:=q28.store (by decide) [111,117,116] 82 (by decide);have B29:=B28.trans (o28.below B28.size (fun i e=>by rw [e];exact Yac _));clear o28 q28 B28
 change (Instr.mapUpdate 72 (.map (some w.heap.size)) (.string ⟨#[111,117,116]⟩) (fnV 82)).run Tryz.prog w28=.ok () w29 at r28
 obtain ⟨w30,r29,q30,o29,_⟩:=q29.store (by decide) [110,101,119] 83 (by decide);have B30:=B29.trans (o29.below B29.size (fun i e=>by rw [e];exact Yac _));clear o29 q29 B29
 change (Instr.mapUpdate 72 (.map (some w.heap.size)) (.string ⟨#[110,101,119]⟩) (fnV 83)).run Tryz.prog w29=.ok () w30 at r29
 obtain ⟨w31,r30,q31,o30,_⟩:=q30.store (by decide) [103,101,116] 84 (by decide);have B31:=B30.trans (o30.below B30.size (fun i e=>by rw [e];exact Yac _));clear o30 q30 B30
 change (Instr.mapUpdate 72 (.map (some w.heap.size)) (.string ⟨#[103,101,116]⟩) (fnV 84)).run Tryz.prog w30=.ok () w31 at r30
 obtain ⟨w32,r31,q32,o31,_⟩:=q31.store (by decide) [112,117,116] 85 (by decide);have B32:=B31.trans (o31.below B31.size (fun i e=>by rw [e];exact Yac _));clear o31 q31 B31
 change (Instr.mapUpdate 72 (.map (some w.heap.size)) (.string ⟨#[112,117,116]⟩) (fnV 85)).run Tryz.prog w31=.ok () w32 at r31
 obtain ⟨w33,r32,q33,o32,_⟩:=q32.store (by decide) [99,97,108,108] 86 (by decide);have B33:=B32.trans (o32.below B32.size (fun i e=>by rw [e];exact Yac _));clear o32 q32 B32
 change (Instr.mapUpdate 72 (.map (some w.heap.size)) (.string ⟨#[99,97,108,108]⟩) (fnV 86)).run Tryz.prog w32=.ok () w33 at r32
 obtain ⟨w34,r33,q34,o33,_⟩:=q33.store (by decide) [97,114,114,97,121] 87 (by decide);have B34:=B33.trans (o33.below B33.size (fun i e=>by rw [e];exact Yac _));clear o33 q33 B33
 change (Instr.mapUpdate 72 (.map (some w.heap.size)) (.string ⟨#[97,114,114,97,121]⟩) (fnV 87)).run Tryz.prog w33=.ok () w34 at r33
 obtain ⟨w35,r34,q35,o34,_⟩:=q34.store (by decide) [97,116] 88 (by decide);have B35:=B34.trans (o34.below B34.size (fun i e=>by rw [e];exact Yac _));clear o34 q34 B34
 change (Instr.mapUpdate 72 (.map (some w.heap.size)) (.string ⟨#[97,116]⟩) (fnV 88)).run Tryz.prog w34=.ok () w35 at r34
 obtain ⟨w36,r35,q36,o35,_⟩:=q35.store (by decide) [115,101,116] 89 (by decide);have B36:=B35.trans (o35.below B35.size (fun i e=>by rw [e];exact Yac _));clear o35 q35 B35
 change (Instr.mapUpdate 72 (.map (some w.heap.size)) (.string ⟨#[115,101,116]⟩) (fnV 89)).run Tryz.prog w35=.ok () w36 at r35
 obtain ⟨w37,r36,q37,o36,_⟩:=q36.store (by decide) [115,105,122,101] 90 (by decide);have B37:=B36.trans (o36.below B36.size (fun i e=>by rw [e];exact Yac _));clear o36 q36 B36
 change (Instr.mapUpdate 72 (.map (some w.heap.size)) (.string ⟨#[115,105,122,101]⟩) (fnV 90)).run Tryz.prog w36=.ok () w37 at r36
 obtain ⟨w38,r37,q38,o37,_⟩:=q37.store (by decide) [105,115] 91 (by decide);have B38:=B37.trans (o37.below B37.size (fun i e=>by rw [e];exact Yac _));clear o37 q37 B37
 change (Instr.mapUpdate 72 (.map (some w.heap.size)) (.string ⟨#[105,115]⟩) (fnV 91)).run Tryz.prog w37=.ok () w38 at r37
 obtain ⟨w39,r38,q39,o38,_⟩:=q38.store (by decide) [99,97,115,116] 92 (by decide);have B39:=B38.trans (o38.below B38.size (fun i e=>by rw [e];exact Yac _));clear o38 q38 B38
 change (Instr.mapUpdate 72 (.map (some w.heap.size)) (.string ⟨#[99,97,115,116]⟩) (fnV 92)).run Tryz.prog w38=.ok () w39 at r38
 obtain ⟨w40,r39,q40,o39,_⟩:=q39.store (by decide) [101,113,117,97,108] 93 (by decide);have B40:=B39.trans (o39.below B39.size (fun i e=>by rw [e];exact Yac _));clear o39 q39 B39
 change (Instr.mapUpdate 72 (.map (some w.heap.size)) (.string ⟨#[101,113,117,97,108]⟩) (fnV 93)).run Tryz.prog w39=.ok () w40 at r39
 obtain ⟨w41,r40,q41,o40,_⟩:=q40.store (by decide) [114,101,116,117,114,110] 94 (by decide);have B41:=B40.trans (o40.below B40.size (fun i e=>by rw [e];exact Yac _));clear o40 q40 B40
 change (Instr.mapUpdate 72 (.map (some w.heap.size)) (.string ⟨#[114,101,116,117,114,110]⟩) (fnV 94)).run Tryz.prog w40=.ok () w41 at r40
 obtain ⟨w42,r41,q42,o41,_⟩:=q41.store (by decide) [116,104,114,111,119] 95 (by decide);have B42:=B41.trans (o41.below B41.size (fun i e=>by rw [e];exact Yac _));clear o41 q41 B41
 change (Instr.mapUpdate 72 (.map (some w.heap.size)) (.string ⟨#[116,104,114,111,119]⟩) (fnV 95)).run Tryz.prog w41=.ok () w42 at r41
 have HQ:=Hd q42;have HB:=Hd B42;clear q42 B42;unfold EffG;go_enter Tryz.func39,Tryz.ntmps39;go_wp2;go_ret;exact ⟨_,rfl,Yac _,HQ.o,HB.o⟩
theorem Zji (op:List UInt8):∀ (r:List (List UInt8 × Nat)),effF r.reverse (.string op)=(match r.find? (fun p=>p.1 == op) with|some p=>fnV p.2|none=>.nilFunc)/\effH r.reverse (.string op)=(r.find? (fun p=>p.1 == op)).isSome
 | []=>⟨rfl,rfl⟩
 | p :: r=>by
  have ih:=Zji op r;have e1:effF ((p :: r).reverse)=updF (effF r.reverse) (.string p.1) (fnV p.2):=by unfold effF;rw [List.reverse_cons,Ya8];rfl
  have e2:effH ((p :: r).reverse)=updF (effH r.reverse) (.string p.1) true:=by unfold effH;rw [List.reverse_cons,Ya8];rfl
  rw [e1,e2,List.find?_cons];by_cases h:p.1=op
  ·subst h;rw [ZbX,ZbX,Ybf];exact ⟨rfl,rfl⟩
  ·rw [Za8 _ _ (fun e=>h (Lit.string.inj e).symm),Za8 _ _ (fun e=>h (Lit.string.inj e).symm),Yah.2 h];exact ih
theorem ZpK (op:List UInt8) (l:List (List UInt8 × Nat)):effF l (.string op)=(match l.reverse.find? (fun p=>p.1 == op) with|some p=>fnV p.2|none=>.nilFunc)/\effH l (.string op)=(l.reverse.find? (fun p=>p.1 == op)).isSome:=by
 have h:=Zji op l.reverse;rw [List.reverse_reverse] at h;exact h
def Zl4 (op:List UInt8):Option Nat:=(effL.reverse.find? (fun p=>p.1 == op)).map (·.2)
theorem EffM.look {w:World} {b:Nat} (h:EffM w b effL) (op:List UInt8) (ho:op.length<=9223372036854775807) :
  (Instr.lookup 72 (.map (some b)) (.string (S op)) true).run Tryz.prog w=.ok (.tuple #[(match Zl4 op with|some F=>fnV F|none=>.nilFunc),.bool (Zl4 op).isSome]) w:=by
 obtain ⟨m,_,q⟩:=h;have hr:=q.look_ok Za3 (t:=72) Tryz.underlying72 (Zqi w) (ZcE op ho);obtain ⟨h1,h2⟩:=ZpK op effL;rw [hr,h1,h2];unfold Zl4;cases effL.reverse.find? (fun p=>p.1 == op) <;> rfl
def preS (T:Nat) (mn mr op sx:List UInt8) (pv cv kv:Value) (ma:Bool) (ml n:Int) (j:Nat):Option Value:=
 #[Value.pointer (some ⟨T,0,none⟩),.string (S mn),pv,.string (S mr),.bool ma,.int .i64 ml,cv,kv,.string (S op),.int .i64 n,.string (S sx)][j]?
structure D4 (w:World) (b1 b2 b3 b4:Nat) (a1 a2 a3 a4:Array Value) (W:World):Prop where
 x1:Box W b1 a1 44
 x2:Box W b2 a2 48
 x3:Box W b3 a3 24
 x4:Box W b4 a4 24
 bel:Below w.heap.size w W
 g4:w.heap.size<=b4
structure BX (X b:Nat) (cs:Array Value) (n:Nat) (t:TypeId) (W:World):Prop where
 known:Box W X cs t
 there:FS b n W
 ne:X ≠ b
theorem ZlG {X b:Nat} {cs:Array Value} {n:Nat} {t:TypeId} {W:World} (h:BX X b cs n t W):BX X b cs n t W.drew:=⟨h.known,h.there,h.ne⟩
theorem Zpo {X b:Nat} {cs:Array Value} {n:Nat} {t:TypeId} {W:World} (j:Nat) (u:Value) (h:BX X b cs n t W):BX X b cs n t (W.setCell ⟨b,j,none⟩ u):=⟨h.known.set_ne h.ne j u,ZqC j u h.there,h.ne⟩
theorem Zer {w:World} {b1 b2 b3 b4:Nat} {a1 a2 a3 a4:Array Value} {W:World} (h:D4 w b1 b2 b3 b4 a1 a2 a3 a4 W):D4 w b1 b2 b3 b4 a1 a2 a3 a4 W.drew:=⟨h.x1,h.x2,h.x3,h.x4,Zab h.bel,h.g4⟩
theorem Zdk {w:World} {b1 b2 b3 b4:Nat} {a1 a2 a3 a4:Array Value} {W W':World} (hb:Below W.heap.size W W') (h:D4 w b1 b2 b3 b4 a1 a2 a3 a4 W):D4 w b1 b2 b3 b4 a1 a2 a3 a4 W':=⟨h.x1.below hb,h.x2.below hb,h.x3.below hb,h.x4.below hb,h.bel.trans (hb.mono h.bel.size),h.g4⟩
theorem ZdO {w:World} {b1 b2 b3 b4:Nat} {a1 a2 a3 a4:Array Value} {W:World} (o:Obj) (h:D4 w b1 b2 b3 b4 a1 a2 a3 a4 W):D4 w b1 b2 b3 b4 a1 a2 a3 a4 (W.alloc o):=Zdk (Zaa (Yab _ _) o) h
theorem Zqx (w:World) (a1 a2 a3 a4:Array Value):D4 w w.heap.size (w.heap.size+1) (w.heap.size+1+1) (w.heap.size+1+1+1) a1 a2 a3 a4 ((((w.alloc (.cells a1 44)).alloc (.cells a2 48)).alloc (.cells a3 24)).alloc (.cells a4 24)):=by
 refine ⟨?_,?_,?_,?_,Zaa (Zaa (Zaa (Zaa (Yab _ _) _) _) _) _,by omega⟩;all_goals
  unfold Box
  repeat (first|(exact Zaf _ _ _ (by simp))|(with_reducible apply Zaq))
def doR (stk loc:List (List UInt8)) (er:Nat):Shp × Nat:=if er ≠ 0 then (Shp.zero,er) else if 24<stk.length then (Shp.zero,72) else (⟨true,stk,loc⟩,0)
def DoG (r:Shp × Nat) (w:World) (e:Ending) (w':World):Prop:=∃ v,e=.returned (.tuple #[v,.int .i64 (r.2:Nat)])/\ShpR Anyw w' r.1 v/\Below w.heap.size w w'
theorem ZpJ {A:Nat->Prop} (F:Nat) (T:Nat) (mn mr op sx:List UInt8) (po co ko:Option Addr) (pn pc cn cc kn kc:Nat) (ma:Bool) (ml n:Int) (s:Shp) (sv:Value) (w0 w:World) (hw:Below w0.heap.size w0 w) (hs:ShpR A w s sv) (hsm:s.Small) (hop:Zl4 op=some F) (hol:op.length<=9223372036854775807)
  (he:∀ args w,(callFunc F args).run Tryz.prog w=.ok (.enter F args) w) (stk loc:List (List UInt8)) (er:Nat)
  (hF:∀ X lo W,w.heap.size<=X->w.heap.size<=lo->StW X lo (preS T mn mr op sx (.slice po pn pc) (.slice co cn cc) (.slice ko kn kc) ma ml n) w0 W s.stk s.loc 0->Calls Tryz.prog F #[.pointer (some ⟨X,0,none⟩)] W (fun e W'=>e=.returned (.tuple #[])/\StW X lo (preS T mn mr op sx (.slice po pn pc) (.slice co cn cc) (.slice ko kn kc) ma ml n) w0 W' stk loc er/\Below lo W W')) :
  Calls Tryz.prog 23 #[.pointer (some ⟨T,0,none⟩),.agg #[.string (S mn),.slice po pn pc,.string (S mr),.bool ma,.int .i64 ml,.slice co cn cc,.slice ko kn kc],.agg #[.string (S op),.int .i64 n,.string (S sx)],sv] w (DoG (doR stk loc er) w):=by
 obtain ⟨a,b,rfl,h1,h2⟩:=hs;have H1:Hid (∀ W,Below w.heap.size w W->Calls Tryz.prog 37 #[a] W (Zfz s.stk W)):=Hd (fun W hW=>Zc6 s.stk a W (StrR.st.below h1 hW) hsm.n1 hsm.k1);have H2:Hid (∀ W,Below w.heap.size w W->Calls Tryz.prog 37 #[b] W (Zfz s.loc W)):=Hd (fun W hW=>Zc6 s.loc b W (StrR.st.below h2 hW) hsm.n2 hsm.k2);have HEF:=Hd (fun W=>Zit W);obtain ⟨so,sc,rfl⟩:=h1.shape;obtain ⟨lo_,lc,rfl⟩:=h2.shape;unfold Zfz at H1 H2;unfold EffG at HEF;have HD:=Hd (Zqx w #[.string (S mn),.slice po pn pc,.string (S mr),.bool ma,.int .i64 ml,.slice co cn cc,.slice ko kn kc] #[.string (S op),.int .i64 n,.string (S sx)] #[.bool s.seen,.slice so s.stk.length sc,.slice lo_ s.loc.length lc] #[.bool false,.slice none 0 0,.slice none 0 0]);obtain ⟨W4,hW4⟩:∃ W4,W4=((((w.alloc (.cells #[.string (S mn),.slice po pn pc,.string (S mr),.bool ma,.int .i64 ml,.slice co cn cc,.slice ko kn kc] 44)).alloc (.cells #[.string (S op),.int .i64 n,.string (S sx)] 48)).alloc (.cells #[.bool s.seen,.slice so s.stk.length sc,.slice lo_ s.loc.length lc] 24)).alloc (.cells #[.bool false,.slice none 0 0,.slice none 0 0] 24)):=⟨_,rfl⟩
 have HLK:Hid (∀ b W,EffM W b effL->(Instr.lookup 72 (.map (some b)) (.string (S op)) true).run Tryz.prog W=.ok (.tuple #[fnV F,.bool true]) W):=Hd (fun b W h=>by
  have q:=h.look op hol;rw [hop] at q;exact q)
 go_enter Tryz.func23,Tryz.ntmps23
 go_upto_region 1 with fail
 rw [←hW4] at HD ⊢;clear hW4;obtain ⟨b1,hc1⟩:∃ c,c=w.heap.size:=⟨_,rfl⟩
 rw [←hc1] at HD ⊢;obtain ⟨b2,hc2⟩:∃ c,c=b1+1:=⟨_,rfl⟩
 rw [←hc2] at HD ⊢;obtain ⟨b3,hc3⟩:∃ c,c=b2+1:=⟨_,rfl⟩
 rw [←hc3] at HD ⊢;obtain ⟨b4,hc4⟩:∃ c,c=b3+1:=⟨_,rfl⟩
 rw [←hc4] at HD ⊢;have HC1:=Hd hc1;clear hc4 hc3 hc2 hc1;have d0:=HD.o;have HS1:Hid (∀ W,D4 w b1 b2 b3 b4 #[.string (S mn),.slice po pn pc,.string (S mr),.bool ma,.int .i64 ml,.slice co cn cc,.slice ko kn kc] #[.string (S op),.int .i64 n,.string (S sx)] #[.bool s.seen,.slice so s.stk.length sc,.slice lo_ s.loc.length lc] #[.bool false,.slice none 0 0,.slice none 0 0] W->W.cell? ⟨b2,0,none⟩=some (.string (S op))):=Hd (fun W h=>h.x2.cell 0 rfl);have g1:=HS1.o W4 d0;first
 | (go_region_held (fun W=>W.cell? ⟨b2,0,none⟩=some (.string (S op))) ((refine HS1.o _ ?_;(repeat (first|(with_reducible assumption)|(with_reducible refine Zer ?_)|(with_reducible (apply Zdk;assumption))|(with_reducible refine ZdO _ ?_)))))
   ((go_at_call 39;(with_reducible refine (HEF.o _).mono ?_);rintro en w1 ⟨eb,rfl,hge,hem,hb1⟩;have hlk:=HLK.o eb w1 hem)))
 | fail
 all_goals
  have d1:D4 w b1 b2 b3 b4 #[.string (S mn),.slice po pn pc,.string (S mr),.bool ma,.int .i64 ml,.slice co cn cc,.slice ko kn kc] #[.string (S op),.int .i64 n,.string (S sx)] #[.bool s.seen,.slice so s.stk.length sc,.slice lo_ s.loc.length lc] #[.bool false,.slice none 0 0,.slice none 0 0] w1:=Zdk hb1 (Zer d0);have D1:=Hd d1;clear g1 hge hem hb1 hlk d0 HS1 HEF HLK d1;have HS2:Hid (∀ W,D4 w b1 b2 b3 b4 #[.string (S mn),.slice po pn pc,.string (S mr),.bool ma,.int .i64 ml,.slice co cn cc,.slice ko kn kc] #[.string (S op),.int .i64 n,.string (S sx)] #[.bool s.seen,.slice so s.stk.length sc,.slice lo_ s.loc.length lc] #[.bool false,.slice none 0 0,.slice none 0 0] W->W.cell? ⟨b1,0,none⟩=some (.string (S mn))/\W.cell? ⟨b1,1,none⟩=some (.slice po pn pc)/\W.cell? ⟨b1,2,none⟩=some (.string (S mr))/\W.cell? ⟨b1,3,none⟩=some (.bool ma)/\W.cell? ⟨b1,4,none⟩=some (.int .i64 ml)/\W.cell? ⟨b1,5,none⟩=some (.slice co cn cc)/\W.cell? ⟨b1,6,none⟩=some (.slice ko kn kc)/\W.cell? ⟨b2,0,none⟩=some (.string (S op))/\W.cell? ⟨b2,1,none⟩=some (.int .i64 n)/\W.cell? ⟨b2,2,none⟩=some (.string (S sx))/\W.cell? ⟨b3,1,none⟩=some (.slice so s.stk.length sc)/\W.cell? ⟨b3,2,none⟩=some (.slice lo_ s.loc.length lc)):=Hd (fun W h=>⟨h.x1.cell 0 rfl,h.x1.cell 1 rfl,h.x1.cell 2 rfl,h.x1.cell 3 rfl,h.x1.cell 4 rfl,h.x1.cell 5 rfl,h.x1.cell 6 rfl,h.x2.cell 0 rfl,h.x2.cell 1 rfl,h.x2.cell 2 rfl,h.x3.cell 1 rfl,h.x3.cell 2 rfl⟩);have HBEL:Hid (∀ W,D4 w b1 b2 b3 b4 #[.string (S mn),.slice po pn pc,.string (S mr),.bool ma,.int .i64 ml,.slice co cn cc,.slice ko kn kc] #[.string (S op),.int .i64 n,.string (S sx)] #[.bool s.seen,.slice so s.stk.length sc,.slice lo_ s.loc.length lc] #[.bool false,.slice none 0 0,.slice none 0 0] W->Below w.heap.size w W):=Hd (fun W h=>h.bel);have d1:=D1.o;obtain ⟨g0,g1,g2,g3,g4,g5,g6,g7,g8,g9,g10,g11⟩:=HS2.o w1 d1
  go_upto_region 3 with fail
  first
  | (go_region_held (fun W=>W.cell? ⟨b1,0,none⟩=some (.string (S mn))/\W.cell? ⟨b1,1,none⟩=some (.slice po pn pc)/\W.cell? ⟨b1,2,none⟩=some (.string (S mr))/\W.cell? ⟨b1,3,none⟩=some (.bool ma)/\W.cell? ⟨b1,4,none⟩=some (.int .i64 ml)/\W.cell? ⟨b1,5,none⟩=some (.slice co cn cc)/\W.cell? ⟨b1,6,none⟩=some (.slice ko kn kc)/\W.cell? ⟨b2,0,none⟩=some (.string (S op))/\W.cell? ⟨b2,1,none⟩=some (.int .i64 n)/\W.cell? ⟨b2,2,none⟩=some (.string (S sx))/\W.cell? ⟨b3,1,none⟩=some (.slice so s.stk.length sc)/\W.cell? ⟨b3,2,none⟩=some (.slice lo_ s.loc.length lc)) ((refine HS2.o _ ?_;(repeat (first|(with_reducible assumption)|(with_reducible refine Zer ?_)|(with_reducible (apply Zdk;assumption))|(with_reducible refine ZdO _ ?_)))))
    (first
     | ((go_at_call 37;(with_reducible refine (H1.o _ ?_).mono ?_);(focus (refine HBEL.o _ ?_;(repeat (first|(with_reducible assumption)|(with_reducible refine Zer ?_)|(with_reducible (apply Zdk;assumption))|(with_reducible refine ZdO _ ?_)));done));rintro en wx1 ⟨va,rfl,hk1,bx1⟩;obtain ⟨ao1,ac1,rfl⟩:=hk1.shape))
     | ((go_at_call 37;(with_reducible refine (H2.o _ ?_).mono ?_);(focus (refine HBEL.o _ ?_;(repeat (first|(with_reducible assumption)|(with_reducible refine Zer ?_)|(with_reducible (apply Zdk;assumption))|(with_reducible refine ZdO _ ?_)));done));rintro en wx2 ⟨vb,rfl,hk2,bx2⟩;obtain ⟨ao2,ac2,rfl⟩:=hk2.shape))))
  | fail
  all_goals
   have d2:D4 w b1 b2 b3 b4 #[.string (S mn),.slice po pn pc,.string (S mr),.bool ma,.int .i64 ml,.slice co cn cc,.slice ko kn kc] #[.string (S op),.int .i64 n,.string (S sx)] #[.bool s.seen,.slice so s.stk.length sc,.slice lo_ s.loc.length lc] #[.bool false,.slice none 0 0,.slice none 0 0] wx2:=by (repeat (first|(with_reducible assumption)|(with_reducible refine Zer ?_)|(with_reducible (apply Zdk;assumption))|(with_reducible refine ZdO _ ?_)))
   have hk1s:KR w1.heap.size wx1 (.slice ao1 s.stk.length ac1) s.stk:=hk1;have hk2s:KR wx1.heap.size wx2 (.slice ao2 s.loc.length ac2) s.loc:=hk2;have hz1:=bx1.size;have hz1s:w1.heap.size<=wx1.heap.size:=hz1;have hz2:=bx2.size;have d3:D4 w b1 b2 b3 b4 #[.string (S mn),.slice po pn pc,.string (S mr),.bool ma,.int .i64 ml,.slice co cn cc,.slice ko kn kc] #[.string (S op),.int .i64 n,.string (S sx)] #[.bool s.seen,.slice so s.stk.length sc,.slice lo_ s.loc.length lc] #[.bool false,.slice none 0 0,.slice none 0 0] (wx2.alloc (.cells #[.pointer (some ⟨T,0,none⟩),.string (S mn),.slice po pn pc,.string (S mr),.bool ma,.int .i64 ml,.slice co cn cc,.slice ko kn kc,.string (S op),.int .i64 n,.string (S sx),.slice ao1 s.stk.length ac1,.slice ao2 s.loc.length ac2,.int .i64 0] 76)):=ZdO _ d2;have hbA:Below wx2.heap.size wx2 (wx2.alloc (.cells #[.pointer (some ⟨T,0,none⟩),.string (S mn),.slice po pn pc,.string (S mr),.bool ma,.int .i64 ml,.slice co cn cc,.slice ko kn kc,.string (S op),.int .i64 n,.string (S sx),.slice ao1 s.stk.length ac1,.slice ao2 s.loc.length ac2,.int .i64 0] 76)):=Zaa (Yab _ _) _;have hst:StW wx2.heap.size w1.heap.size (preS T mn mr op sx (.slice po pn pc) (.slice co cn cc) (.slice ko kn kc) ma ml n) w0 (wx2.alloc (.cells #[.pointer (some ⟨T,0,none⟩),.string (S mn),.slice po pn pc,.string (S mr),.bool ma,.int .i64 ml,.slice co cn cc,.slice ko kn kc,.string (S op),.int .i64 n,.string (S sx),.slice ao1 s.stk.length ac1,.slice ao2 s.loc.length ac2,.int .i64 0] 76)) s.stk s.loc 0:=by
    refine ⟨⟨_,.slice ao1 s.stk.length ac1,.slice ao2 s.loc.length ac2,rfl,?_,rfl,rfl,rfl,Box.new wx2 _ _,((hk1s.below bx2).below hbA),((hk2s.mono hz1s).below hbA),?_,?_,?_⟩,?_,?_,?_,?_⟩
    ·intro j hj;have hj':j=0\/j=1\/j=2\/j=3\/j=4\/j=5\/j=6\/j=7\/j=8\/j=9\/j=10:=by omega
     rcases hj' with rfl|rfl|rfl|rfl|rfl|rfl|rfl|rfl|rfl|rfl|rfl <;> rfl
    ·intro e;have:=(hk1s.own _ e).2;omega
    ·intro e;have:=(hk2s.own _ e).2;omega
    ·intro g hg e;have q1:=(hk1s.own g hg).2;have q2:=(hk2s.own g e).1;omega
    ·have:=hbA.size;omega
    ·exact Yaq hw.size D1.o.bel.size
    ·exact Yaq hz1s hz2
    ·exact hw.trans (d3.bel.mono hw.size)
   have HST:=Hd (hF wx2.heap.size w1.heap.size (wx2.alloc (.cells #[.pointer (some ⟨T,0,none⟩),.string (S mn),.slice po pn pc,.string (S mr),.bool ma,.int .i64 ml,.slice co cn cc,.slice ko kn kc,.string (S op),.int .i64 n,.string (S sx),.slice ao1 s.stk.length ac1,.slice ao2 s.loc.length ac2,.int .i64 0] 76)) d2.bel.size D1.o.bel.size hst);have D3:=Hd d3;obtain ⟨X,hX⟩:∃ X,X=wx2.heap.size:=⟨_,rfl⟩
   obtain ⟨W6,hW6⟩:∃ W6,W6=(wx2.alloc (.cells #[.pointer (some ⟨T,0,none⟩),.string (S mn),.slice po pn pc,.string (S mr),.bool ma,.int .i64 ml,.slice co cn cc,.slice ko kn kc,.string (S op),.int .i64 n,.string (S sx),.slice ao1 s.stk.length ac1,.slice ao2 s.loc.length ac2,.int .i64 0] 76)):=⟨_,rfl⟩
   rw [←hW6] at HST D3 ⊢;rw [←hX] at HST ⊢;clear hW6 hX hst d3 d2 hbA hk1 hk2 hk1s hk2s bx1 bx2 hz1 hz2 hz1s d1 g0 g1 g2 g3 g4 g5 g6 g7 g8 g9 g10 g11
   go_wp2_with fail
   with_reducible refine HST.o.mono ?_
   rintro e w7 ⟨rfl,hst7,hb7⟩;obtain ⟨cs,sv,lv,q1,q2,q3,q4,q5,q6,q7,q8,q9,q10,q11⟩:=hst7.ex;obtain ⟨vo,vc,rfl⟩:=q7.shape;obtain ⟨uo,uc,rfl⟩:=q8.shape;have c11:=q6.cell 11 q3;obtain ⟨er3,her3⟩:∃ r,r=reqE er (decide ((stk.length:Int)<=24)) 72:=⟨_,rfl⟩
   have HRQ:Hid (Calls Tryz.prog 40 #[.pointer (some ⟨X,0,none⟩),.bool (decide ((stk.length:Int)<=24)),.int .i64 72] w7 (fun en w'=>en=.returned (.tuple #[])/\Box w' X (cs.setIfInBounds 13 (.int .i64 (er3:Nat))) 76/\(w'=w7\/w'=w7.setCell ⟨X,13,none⟩ (.int .i64 (er3:Nat))))):=Hd (by
    rw [her3];exact ZdX X er 72 (decide ((stk.length:Int)<=24)) cs w7 q6 q5)
   have hR:doR stk loc er=if er3=0 then (⟨true,stk,loc⟩,0) else (Shp.zero,er3):=by
    rw [her3];unfold doR reqE;by_cases h0:er=0
    ·subst h0;by_cases h24:24<stk.length
     ·have:decide ((stk.length:Int)<=24)=false:=Yaj (by omega);simp [this,h24]
     ·have:decide ((stk.length:Int)<=24)=true:=Yat (by omega);simp [this,h24]
    ·simp [h0]
   have HR:=Hd hR;have x4:Box w7 b4 #[.bool false,.slice none 0 0,.slice none 0 0] 24:=by
    have h4:=D1.o.x4.lt;have h5:w7.heap[b4]? = W6.heap[b4]?:=hb7.block b4 h4;have h6:W6.heap[b4]? = some (.cells #[.bool false,.slice none 0 0,.slice none 0 0] 24 (0,0)):=D3.o.x4;exact h5.trans h6
   have hb47:b4 ≠ X:=fun e=>by
    have h4:=D1.o.x4.lt;have h5:=hst7.lo3;omega
   have hsz4:=D3.o.bel;have hb07:Below w.heap.size w w7:=D3.o.bel.trans (hb7.mono D1.o.bel.size);have hgX:w.heap.size<=X:=Yaq D1.o.bel.size hst7.lo3;clear her3 hR HST
   go_wp2_with fail
   with_reducible refine HRQ.o.mono ?_
   rintro e w8 ⟨rfl,hb8,hw8⟩;have ho8:Only (fun i=>i=X) w7 w8:=by
    rcases hw8 with rfl|rfl
    ·exact Yan _ _
    ·exact (Yan (fun i=>i=X) w7).setCell (p:=⟨X,13,none⟩) rfl _
   have x8:=x4.keep ho8 hb47;have k8:=q7.keep ho8 (fun g hg e=>q9 (by rw [hg,e]));have l8:=q8.keep ho8 (fun g hg e=>q10 (by rw [hg,e]));have hb08:Below w.heap.size w w8:=hb07.trans (ho8.below hb07.size (fun i e=>by rw [e];exact hgX));have e11:w8.cell? ⟨X,11,none⟩=some (.slice vo stk.length vc):=hb8.cell 11 (by rw [YaD,Yas (by decide)];exact q3);have e12:w8.cell? ⟨X,12,none⟩=some (.slice uo loc.length uc):=hb8.cell 12 (by rw [YaD,Yas (by decide)];exact q4);have e13:w8.cell? ⟨X,13,none⟩=some (.int .i64 (er3:Nat)):=hb8.cell 13 (by rw [YaD,YaC rfl,YaC (by omega)]);have r0:w8.cell? ⟨b4,0,none⟩=some (.bool false):=x8.cell 0 rfl;have r1:w8.cell? ⟨b4,1,none⟩=some (.slice none 0 0):=x8.cell 1 rfl;have r2:w8.cell? ⟨b4,2,none⟩=some (.slice none 0 0):=x8.cell 2 rfl;have z0:=x8.free 0;have z1:=x8.free 1;have z2:=x8.free 2;have HX8:=Hd (⟨hb8,⟨_,_,rfl,x8⟩,fun e=>hb47 e.symm⟩:BX X b4 (cs.setIfInBounds 13 (.int .i64 (er3:Nat))) 3 76 w8);have h813:(cs.setIfInBounds 13 (.int .i64 (er3:Nat)))[11]? = some (.slice vo stk.length vc)/\(cs.setIfInBounds 13 (.int .i64 (er3:Nat)))[12]? = some (.slice uo loc.length uc):=⟨by rw [YaD,Yas (by decide)];exact q3,by rw [YaD,Yas (by decide)];exact q4⟩;have X8:=Hd x8;have K8:=Hd k8;have L8:=Hd l8;have B08:=Hd hb08;have HGX4:Hid (w.heap.size<=b4):=Hd D1.o.g4;clear x4 x8 k8 l8 hb08 hb07 ho8 hw8 hb8 q6 q7 q8 c11 hst7 hb7;by_cases h0:er3=0
   ·subst h0;have bx0:=HX8.o;have HSX:Hid (∀ W,BX X b4 (cs.setIfInBounds 13 (.int .i64 ((0:Nat):Int))) 3 76 W->W.cell? ⟨X,11,none⟩=some (.slice vo stk.length vc)/\W.cell? ⟨X,12,none⟩=some (.slice uo loc.length uc)/\W.cell? ⟨b4,0,none⟩=some (atC W b4 0)/\W.frozen? ⟨b4,0,none⟩=false/\W.cell? ⟨b4,1,none⟩=some (atC W b4 1)/\W.frozen? ⟨b4,1,none⟩=false/\W.cell? ⟨b4,2,none⟩=some (atC W b4 2)/\W.frozen? ⟨b4,2,none⟩=false):=Hd (fun W h=>⟨h.known.cell 11 h813.1,h.known.cell 12 h813.2,h.there.at_ 0 (by omega),h.there.free 0,h.there.at_ 1 (by omega),h.there.free 1,h.there.at_ 2 (by omega),h.there.free 2⟩)
    go_upto_region 9 with fail
    clear r0 r1 r2 z0 z1 z2 e11 e12 e13;obtain ⟨g0,g1,g2,g3,g4,g5,g6,g7⟩:=HSX.o w8 bx0;first
    | (go_region_held (fun W=>W.cell? ⟨X,11,none⟩=some (.slice vo stk.length vc)/\W.cell? ⟨X,12,none⟩=some (.slice uo loc.length uc)/\W.cell? ⟨b4,0,none⟩=some (atC W b4 0)/\W.frozen? ⟨b4,0,none⟩=false/\W.cell? ⟨b4,1,none⟩=some (atC W b4 1)/\W.frozen? ⟨b4,1,none⟩=false/\W.cell? ⟨b4,2,none⟩=some (atC W b4 2)/\W.frozen? ⟨b4,2,none⟩=false) ((refine HSX.o _ ?_;(repeat (first|(with_reducible assumption)|(with_reducible refine ZlG ?_)|(with_reducible refine Zpo _ _ ?_))))) (fail))
    | fail
    all_goals
     have ho9:Only (fun i=>i=b4) w8 ((((w8.setCell ⟨b4,0,none⟩ (.bool true)).setCell ⟨b4,1,none⟩ (.slice vo stk.length vc)).setCell ⟨b4,2,none⟩ (.slice uo loc.length uc)).drew):=((((Yan (fun i=>i=b4) w8).setCell (p:=⟨b4,0,none⟩) rfl _).setCell (p:=⟨b4,1,none⟩) rfl _).setCell (p:=⟨b4,2,none⟩) rfl _).drew;have l:=ZaD (P:=Tryz.prog) (w:=((((w8.setCell ⟨b4,0,none⟩ (.bool true)).setCell ⟨b4,1,none⟩ (.slice vo stk.length vc)).setCell ⟨b4,2,none⟩ (.slice uo loc.length uc)).drew)) (cs:=#[.bool true,.slice vo stk.length vc,.slice uo loc.length uc]) (((X8.o.set 0 (.bool true)).set 1 (.slice vo stk.length vc)).set 2 (.slice uo loc.length uc)) Tryz.underlying24 rfl Zbj;have hb9:Below w.heap.size w ((((w8.setCell ⟨b4,0,none⟩ (.bool true)).setCell ⟨b4,1,none⟩ (.slice vo stk.length vc)).setCell ⟨b4,2,none⟩ (.slice uo loc.length uc)).drew):=B08.o.trans (ho9.below B08.o.size (fun i e=>by rw [e];exact HGX4.o));have k9:=K8.o.keep ho9 (fun g hg e=>by have h1:=(K8.o.own g hg).1;have h2:=D1.o.x4.lt;omega);have l9:=L8.o.keep ho9 (fun g hg e=>by have h1:=(L8.o.own g hg).1;have h2:=D1.o.x4.lt;omega);have HDG:Hid (DoG (doR stk loc er) w (.returned (.tuple #[.agg #[.bool true,.slice vo stk.length vc,.slice uo loc.length uc],.int .i64 0])) ((((w8.setCell ⟨b4,0,none⟩ (.bool true)).setCell ⟨b4,1,none⟩ (.slice vo stk.length vc)).setCell ⟨b4,2,none⟩ (.slice uo loc.length uc)).drew)):=Hd (by
      rw [HR.o,YaC trivial];exact ⟨_,rfl,⟨_,_,rfl,StrR.st.any (k9.src Zbc),StrR.st.any (l9.src Zbc)⟩,hb9⟩)
     clear k9 l9 hb9 ho9;go_wp2;refine bodyPost_ret (v:=.tuple #[.agg #[.bool true,.slice vo stk.length vc,.slice uo loc.length uc],.int .i64 0]) ?_ rfl HDG.o;simp only [results,Tryz.results23];simp [asAddr,l]
   ·have hne0:¬ ((er3:Int)=0):=by omega
    have hne1:((er3:Int) != 0)=true:=by simpa using hne0
    have bx0:=HX8.o;have h13:(cs.setIfInBounds 13 (.int .i64 (er3:Nat)))[13]? = some (.int .i64 (er3:Nat)):=by rw [YaD,YaC rfl,YaC (by omega)]
    have HSX:Hid (∀ W,BX X b4 (cs.setIfInBounds 13 (.int .i64 (er3:Nat))) 3 76 W->W.cell? ⟨X,13,none⟩=some (.int .i64 (er3:Nat))/\W.cell? ⟨b4,0,none⟩=some (atC W b4 0)/\W.frozen? ⟨b4,0,none⟩=false/\W.cell? ⟨b4,1,none⟩=some (atC W b4 1)/\W.frozen? ⟨b4,1,none⟩=false/\W.cell? ⟨b4,2,none⟩=some (atC W b4 2)/\W.frozen? ⟨b4,2,none⟩=false):=Hd (fun W h=>⟨h.known.cell 13 h13,h.there.at_ 0 (by omega),h.there.free 0,h.there.at_ 1 (by omega),h.there.free 1,h.there.at_ 2 (by omega),h.there.free 2⟩)
    go_upto_region 8 with fail
    clear r0 r1 r2 z0 z1 z2 e11 e12 e13;obtain ⟨g0,g2,g3,g4,g5,g6,g7⟩:=HSX.o w8 bx0;first
    | (go_region_held (fun W=>W.cell? ⟨X,13,none⟩=some (.int .i64 (er3:Nat))/\W.cell? ⟨b4,0,none⟩=some (atC W b4 0)/\W.frozen? ⟨b4,0,none⟩=false/\W.cell? ⟨b4,1,none⟩=some (atC W b4 1)/\W.frozen? ⟨b4,1,none⟩=false/\W.cell? ⟨b4,2,none⟩=some (atC W b4 2)/\W.frozen? ⟨b4,2,none⟩=false) ((refine HSX.o _ ?_;(repeat (first|(with_reducible assumption)|(with_reducible refine ZlG ?_)|(with_reducible refine Zpo _ _ ?_))))) (fail))
    | fail
    all_goals
     have ho9:Only (fun i=>i=b4) w8 ((((w8.setCell ⟨b4,0,none⟩ (.bool false)).setCell ⟨b4,1,none⟩ (.slice none 0 0)).setCell ⟨b4,2,none⟩ (.slice none 0 0)).drew):=((((Yan (fun i=>i=b4) w8).setCell (p:=⟨b4,0,none⟩) rfl _).setCell (p:=⟨b4,1,none⟩) rfl _).setCell (p:=⟨b4,2,none⟩) rfl _).drew;have l:=ZaD (P:=Tryz.prog) (w:=((((w8.setCell ⟨b4,0,none⟩ (.bool false)).setCell ⟨b4,1,none⟩ (.slice none 0 0)).setCell ⟨b4,2,none⟩ (.slice none 0 0)).drew)) (cs:=#[.bool false,.slice none 0 0,.slice none 0 0]) (((X8.o.set 0 (.bool false)).set 1 (.slice none 0 0)).set 2 (.slice none 0 0)) Tryz.underlying24 rfl Zbj;have hb9:Below w.heap.size w ((((w8.setCell ⟨b4,0,none⟩ (.bool false)).setCell ⟨b4,1,none⟩ (.slice none 0 0)).setCell ⟨b4,2,none⟩ (.slice none 0 0)).drew):=B08.o.trans (ho9.below B08.o.size (fun i e=>by rw [e];exact HGX4.o));have HDG:Hid (DoG (doR stk loc er) w (.returned (.tuple #[.agg #[.bool false,.slice none 0 0,.slice none 0 0],.int .i64 (er3:Nat)])) ((((w8.setCell ⟨b4,0,none⟩ (.bool false)).setCell ⟨b4,1,none⟩ (.slice none 0 0)).setCell ⟨b4,2,none⟩ (.slice none 0 0)).drew)):=Hd (by
      rw [HR.o,Yas h0];exact ⟨_,rfl,⟨_,_,rfl,Src.nil,Src.nil⟩,hb9⟩)
     clear hb9 ho9;go_wp2;refine bodyPost_ret (v:=.tuple #[.agg #[.bool false,.slice none 0 0,.slice none 0 0],.int .i64 (er3:Nat)]) ?_ rfl HDG.o;simp only [results,Tryz.results23];simp [asAddr,l]
