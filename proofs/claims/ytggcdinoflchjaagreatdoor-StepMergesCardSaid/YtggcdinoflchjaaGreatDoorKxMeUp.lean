/- laws -/
import Derived.Test.YtggcdinoflchjaaGreatDoorK79
set_option maxRecDepth 100000
set_option maxHeartbeats 16000000
namespace Go.Proofs.YtggcdinoflchjaaGreatDoor
open Go.RowKit
theorem class_plain {n:List UInt8} (h:Zak n=true):Zas n=false:=by
 cases hp:Zas n with
 | false=>rfl
 | true=>rw [Ze3 hp] at h;cases h
theorem Zgt:Zas Za1=false:=by decide
theorem Wise.at {es:List Ent} (W:Wise es) {i:Nat} (hi:i<es.length):Zac es (nmE es i)=some i/\Zak (nmE es i)=true:=by
 have he:=Yaa hi;rw [Ze2 he];exact ⟨W.uq i _ he,W.cl i _ he⟩
theorem Wise.objAt {es:List Ent} (W:Wise es):Zac es objL=some 0:=W.uq 0 _ W.obj
theorem Wise.nm0 {es:List Ent} (W:Wise es):nmE es 0=objL:=Ze2 W.obj
theorem Wise.kind_class {es:List Ent} (W:Wise es) {n:List UInt8} {i:Nat} (h:Zac es n=some i):ZaK es n=true:=by
 obtain ⟨_,_,_,_,hc,_⟩:=W.place h;unfold ZaK Zbs;rw [ZeE (ZcO hc),h];simp
theorem Wise.up0 {es:List Ent} (W:Wise es) {i:Nat} (hi:i<es.length):Up es i 0:=W.line_up i hi 0 (W.zero_line hi)
theorem Wise.s1 {es:List Ent} (_:Wise es) {a b:List UInt8} (h:ZaK es a=false\/ZaK es b=false\/a=b):subE es a b=(a == b && ZaK es a):=by
 unfold subE;rcases h with h|h|h
 ·rw [h];simp
 ·rw [h];by_cases e:a=b
  ·rw [e,h];simp
  ·rw [show (a == b)=false from Yah.2 e];simp
 ·subst h;rw [YaV];cases ZaK es a <;> rfl
theorem plain_dep {l:List UInt8} (h:Zas l=true):depN l=0:=by
 unfold depN;split
 ·exact ZdL (ZdF h)
 ·rfl
theorem Wise.s2 {es:List Ent} (W:Wise es) {a b:List UInt8} (hab:a ≠ b) (h:Zas a=true\/Zas b=true\/b=Za1):subE es a b=false:=by
 refine Za8 (fun hs=>?_);obtain ⟨_,_,hc⟩:=W.sub_case.1 hs;cases hc with
 | same=>exact hab rfl
 | null _ hn hp=>
  rcases h with h|h|h
  ·rw [Zgt] at h;cases h
  ·rw [hp] at h;cases h
  ·exact hn h
 | arr _ hn hd=>
  rcases h with h|h|h
  ·rw [plain_dep h] at hd;omega
  ·exact absurd h (by decide)
  ·exact absurd h (by decide)
 | cls _ _ i j p q r=>
  obtain ⟨_,_,_,_,h1,_⟩:=W.place p;obtain ⟨_,_,_,_,h2,_⟩:=W.place q;rcases h with h|h|h
  ·rw [class_plain h1] at h;cases h
  ·rw [class_plain h2] at h;cases h
  ·rw [h,ZcH] at h2;cases h2
theorem Wise.kind_sort {es:List Ent} (W:Wise es) {a:List UInt8} (h:ZaK es a=true):a=Za1\/Zas a=true\/(0<depN a/\Zbs es a=true/\Zac es a=none)\/∃ i,Zac es a=some i:=by
 by_cases hn:a=Za1
 ·exact .inl hn
 have hd:Zbs es a=true:=by
  unfold ZaK at h;rw [show (a == Za1)=false from Yah.2 hn] at h
  simpa using h
 rcases YbI (depN a) with h0|h0
 ·have hd2:=hd;unfold Zbs at hd2;rw [ZeE h0,YaS] at hd2;rcases hd2 with h1|h1
  ·exact .inr (.inl h1)
  ·exact .inr (.inr (.inr (YaL.1 h1)))
 ·refine .inr (.inr (.inl ⟨h0,hd,?_⟩));cases hp:Zac es a with
  | none=>rfl
  | some i=>obtain ⟨_,_,_,_,h1,_⟩:=W.place hp;rw [ZcO h1] at h0;omega
theorem Wise.s3 {es:List Ent} (W:Wise es) {a b:List UInt8} (ha:ZaK es a=true) (hb:ZaK es b=true) (pa:Zas a=false) (pb:Zas b=false) (hbn:b ≠ Za1) (h:a=Za1\/b=objL):subE es a b=true:=by
 refine W.sub_case.2 ⟨ha,hb,?_⟩;by_cases hn:a=Za1
 ·rw [hn];exact .null b hbn pb
 ·rcases h with h|h
  ·exact absurd h hn
  ·subst h;rcases W.kind_sort ha with h|h|⟨h,_⟩|⟨i,hi⟩
   ·exact absurd h hn
   ·rw [pa] at h;cases h
   ·exact .arr a hn h
   ·exact .cls a objL i 0 hi W.objAt (W.up0 (ZaU hi))
theorem Wise.s4 {es:List Ent} (W:Wise es) {a b:List UInt8} (hab:a ≠ b) (ha:ZaK es a=true) (hb:ZaK es b=true) (han:a ≠ Za1) (hbo:b ≠ objL) :
  subE es a b=true↔∃ i j,Zac es a=some i/\Zac es b=some j/\Over es i j:=by
 rw [W.sub_case];constructor
 ·rintro ⟨_,_,hc⟩;cases hc with
  | same=>exact absurd rfl hab
  | null=>exact absurd rfl han
  | arr=>exact absurd rfl hbo
  | cls _ _ i j p q r=>
   rcases r.over with e|h
   ·subst e;obtain ⟨_,_,_,_,_,h1⟩:=W.place p;obtain ⟨_,_,_,_,_,h2⟩:=W.place q;exact absurd (h1.symm.trans h2) hab
   ·exact ⟨i,j,p,q,h⟩
 ·rintro ⟨i,j,p,q,r⟩;exact ⟨ha,hb,.cls a b i j p q r.up⟩
theorem rsub_any {A:Nat->Prop} (cs:List Cls) (hL:Lined cs) (W:Wise (newT cs)) (sv:Value) (a b:List UInt8) (w:World) (hs:Src 8 ClsR A w sv (allR cs)) (ha:a.length<=9223372036854775807) (hb:b.length<=9223372036854775807) :
  Calls Tryz.prog 34 #[sv,.string (S a),.string (S b)] w (Said (subE (newT cs) a b) w):=by
 have HKA:Hid (∀ V,Below w.heap.size w V->Calls Tryz.prog 60 #[sv,.string (S a)] V (fun e w'=>e=.returned (.bool (ZaK (newT cs) a))/\Below V.heap.size V w')):=Hd (fun V hV=>Zd0 cs hL.len W sv a V (ClsR.st.below hs hV) ha);have HKB:Hid (∀ V,Below w.heap.size w V->Calls Tryz.prog 60 #[sv,.string (S b)] V (fun e w'=>e=.returned (.bool (ZaK (newT cs) b))/\Below V.heap.size V w')):=Hd (fun V hV=>Zd0 cs hL.len W sv b V (ClsR.st.below hs hV) hb);have HPA:=Hd (fun V=>Zbe a V);have HPB:=Hd (fun V=>Zbe b V);have HFA:Hid (∀ V,Below w.heap.size w V->Calls Tryz.prog 53 #[sv,.string (S a)] V (fun e w'=>e=.returned (.int .i64 (idxV (Zac (newT cs) a)))/\Below V.heap.size V w')):=Hd (fun V hV=>Zby cs hL.len sv a V (ClsR.st.below hs hV));have HFB:Hid (∀ V,Below w.heap.size w V->Calls Tryz.prog 53 #[sv,.string (S b)] V (fun e w'=>e=.returned (.int .i64 (idxV (Zac (newT cs) b)))/\Below V.heap.size V w')):=Hd (fun V hV=>Zby cs hL.len sv b V (ClsR.st.below hs hV));have HBL:Hid (∀ V,Below w.heap.size w V->Calls Tryz.prog 55 #[sv] V (Zfe (allR cs) V)):=Hd (fun V hV=>ZeQ (allR cs) sv V (ClsR.st.below hs hV) (by rw [ZbX];have:=hL.len;omega) hL.like_len);have H1:=Hd (fun h=>W.s1 (a:=a) (b:=b) h);have H2:=Hd (fun h1 h2=>W.s2 (a:=a) (b:=b) h1 h2);have H3:=Hd (fun h1 h2 h3 h4 h5 h6=>W.s3 (a:=a) (b:=b) h1 h2 h3 h4 h5 h6);have H4:Hid (∀ (M:Nat->Nat->Bool),(∀ x y,x<(allR cs).length->y<(allR cs).length->(M x y=true↔Plus (StepR (allR cs)) x y))->a ≠ b->ZaK (newT cs) a=true->ZaK (newT cs) b=true->a ≠ Za1->b ≠ objL->
   (∀ i j,Zac (newT cs) a=some i->Zac (newT cs) b=some j->i<(allR cs).length/\j<(allR cs).length/\subE (newT cs) a b=M i j)):=Hd (fun M hM h1 h2 h3 h4 h5=>by
  have h:=W.s4 h1 h2 h3 h4 h5;refine fun i j hi hj=>?_
  ·have hil:=ZaU hi;have hjl:=ZaU hj;have hel:(allR cs).length=(newT cs).length:=by rw [ZbX,ZaT]
   refine ⟨by rw [hel];exact hil,by rw [hel];exact hjl,?_⟩;rw [Ybg,h,hM i j (by rw [hel];exact hil) (by rw [hel];exact hjl),ZfT (fun i j=>hL.step i j)];constructor
   ·rintro ⟨i',j',p,q,r⟩;rw [hi] at p;rw [hj] at q;obtain rfl:=Yae p;obtain rfl:=Yae q;exact r
   ·intro r;exact ⟨i,j,hi,hj,r⟩)
 have H6:Hid (a ≠ b->ZaK (newT cs) a=true->ZaK (newT cs) b=true->a ≠ Za1->b ≠ objL->Zac (newT cs) a=none\/Zac (newT cs) b=none->subE (newT cs) a b=false):=Hd (fun h1 h2 h3 h4 h5 hn=>Za8 (fun ht=>by
  obtain ⟨i,j,p,q,_⟩:=(W.s4 h1 h2 h3 h4 h5).1 ht;rcases hn with e|e
  ·rw [e] at p;cases p
  ·rw [e] at q;cases q))
 unfold Zfe at HBL;unfold Za1 at H2 H3 H4 H6;unfold objL at H3 H4 H6;generalize hm:(allR cs).length=m at HBL H4;have e0:=Zae a;have e1:=Zae b;have B0:=Hd (Yab w.heap.size w);obtain ⟨so,sc,rfl⟩:=hs.shape;rw [hm] at HKA HKB HFA HFB HBL ⊢;clear hs ha hb W hL hm;generalize subE (newT cs) a b=r at H1 H2 H3 H4 H6 ⊢;generalize Zas a=pa at HPA H2 H3;generalize Zas b=pb at HPB H2 H3;generalize ZaK (newT cs) a=ka at HKA H1 H3 H4 H6;generalize ZaK (newT cs) b=kb at HKB H1 H3 H4 H6;generalize Zac (newT cs) a=oa at HFA H4 H6;generalize Zac (newT cs) b=ob at HFB H4 H6;by_cases hab:a=b
 ·have h0:(a == b)=true:=by rw [hab];exact YaV _
  have h1:decide (a=b)=true:=Yar hab;have HR:Hid (r=ka):=Hd (by rw [H1.o (.inr (.inr hab)),h0,Yax]);clear H1 H2 H3 H4 H6 HPA HPB HFA HFB HBL;subst hab;cases ka with
  | false=>
   clear HKB;go_enter Tryz.func34,Tryz.ntmps34
   go_wp2_with fail
   with_reducible refine (HKA.o w B0.o).mono ?_
   rintro e w1 ⟨rfl,hb⟩;have B1:=Hd (B0.o.trans (hb.mono B0.o.size));clear hb
   go_wp2_with fail
   with_reducible refine (HKA.o w1 B1.o).mono ?_
   rintro e w2 ⟨rfl,hb⟩;have B2:=Hd (B1.o.trans (hb.mono B1.o.size));clear hb;go_wp2;go_ret;exact ⟨by rw [HR.o];first|done|rfl,B2.o⟩
  | true=>
   go_enter Tryz.func34,Tryz.ntmps34
   go_wp2_with fail
   with_reducible refine (HKA.o w B0.o).mono ?_
   rintro e w1 ⟨rfl,hb⟩;have B1:=Hd (B0.o.trans (hb.mono B0.o.size));clear hb;cases kb with
   | false=>
    go_wp2_with fail
    with_reducible refine (HKB.o w1 B1.o).mono ?_
    rintro e w2 ⟨rfl,hb⟩;have B2:=Hd (B1.o.trans (hb.mono B1.o.size));clear hb
    go_wp2_with fail
    with_reducible refine (HKA.o w2 B2.o).mono ?_
    rintro e w3 ⟨rfl,hb⟩;have B3:=Hd (B2.o.trans (hb.mono B2.o.size));clear hb;go_wp2;go_ret;exact ⟨by rw [HR.o];first|done|rfl,B3.o⟩
   | true=>
    go_wp2_with fail
    with_reducible refine (HKB.o w1 B1.o).mono ?_
    rintro e w2 ⟨rfl,hb⟩;have B2:=Hd (B1.o.trans (hb.mono B1.o.size));clear hb
    go_wp2_with fail
    with_reducible refine (HKA.o w2 B2.o).mono ?_
    rintro e w3 ⟨rfl,hb⟩;have B3:=Hd (B2.o.trans (hb.mono B2.o.size));clear hb;go_wp2;go_ret;exact ⟨by rw [HR.o];first|done|rfl,B3.o⟩
 ·have h0:(a == b)=false:=Yah.2 hab;have h1:decide (a=b)=false:=Yaj hab;have HAB:=Hd hab;clear hab;cases ka with
  | false=>
   have HR:Hid (r=false):=Hd (by rw [H1.o (.inl rfl),h0,YaD]);clear H1 H2 H3 H4 H6 HPA HPB HFA HFB HBL HKB;go_enter Tryz.func34,Tryz.ntmps34
   go_wp2_with fail
   with_reducible refine (HKA.o w B0.o).mono ?_
   rintro e w1 ⟨rfl,hb⟩;have B1:=Hd (B0.o.trans (hb.mono B0.o.size));clear hb;go_wp2;go_ret;exact ⟨by rw [HR.o];first|done|rfl,B1.o⟩
  | true=>
   cases kb with
   | false=>
    have HR:Hid (r=false):=Hd (by rw [H1.o (.inr (.inl rfl)),h0,YaD]);clear H1 H2 H3 H4 H6 HPA HPB HFA HFB HBL;go_enter Tryz.func34,Tryz.ntmps34
    go_wp2_with fail
    with_reducible refine (HKA.o w B0.o).mono ?_
    rintro e w1 ⟨rfl,hb⟩;have B1:=Hd (B0.o.trans (hb.mono B0.o.size));clear hb
    go_wp2_with fail
    with_reducible refine (HKB.o w1 B1.o).mono ?_
    rintro e w2 ⟨rfl,hb⟩;have B2:=Hd (B1.o.trans (hb.mono B1.o.size));clear hb;go_wp2;go_ret;exact ⟨by rw [HR.o];first|done|rfl,B2.o⟩
   | true=>
    clear H1;cases pa with
    | true=>
     have HR:Hid (r=false):=Hd (H2.o HAB.o (.inl rfl));clear H2 H3 H4 H6 HPB HFA HFB HBL;go_enter Tryz.func34,Tryz.ntmps34
     go_wp2_with fail
     with_reducible refine (HKA.o w B0.o).mono ?_
     rintro e w1 ⟨rfl,hb⟩;have B1:=Hd (B0.o.trans (hb.mono B0.o.size));clear hb
     go_wp2_with fail
     with_reducible refine (HKB.o w1 B1.o).mono ?_
     rintro e w2 ⟨rfl,hb⟩;have B2:=Hd (B1.o.trans (hb.mono B1.o.size));clear hb
     go_wp2_with fail
     with_reducible refine (HPA.o w2).mono ?_
     rintro e w3 ⟨rfl,rfl⟩;go_wp2;go_ret;exact ⟨by rw [HR.o];first|done|rfl,B2.o⟩
    | false=>
     cases pb with
     | true=>
      have HR:Hid (r=false):=Hd (H2.o HAB.o (.inr (.inl rfl)));clear H2 H3 H4 H6 HFA HFB HBL;go_enter Tryz.func34,Tryz.ntmps34
      go_wp2_with fail
      with_reducible refine (HKA.o w B0.o).mono ?_
      rintro e w1 ⟨rfl,hb⟩;have B1:=Hd (B0.o.trans (hb.mono B0.o.size));clear hb
      go_wp2_with fail
      with_reducible refine (HKB.o w1 B1.o).mono ?_
      rintro e w2 ⟨rfl,hb⟩;have B2:=Hd (B1.o.trans (hb.mono B1.o.size));clear hb
      go_wp2_with fail
      with_reducible refine (HPA.o w2).mono ?_
      rintro e w3 ⟨rfl,rfl⟩
      go_wp2_with fail
      with_reducible refine (HPB.o w2).mono ?_
      rintro e w4 ⟨rfl,rfl⟩;go_wp2;go_ret;exact ⟨by rw [HR.o];first|done|rfl,B2.o⟩
     | false=>
      by_cases hbn:b=[110,117,108,108]
      ·have HR:Hid (r=false):=Hd (H2.o HAB.o (.inr (.inr hbn)));have g1:(b == [110,117,108,108])=true:=by rw [hbn];rfl
       have g2:decide (b=[110,117,108,108])=true:=Yar hbn;clear H2 H3 H4 H6 HFA HFB HBL hbn;go_enter Tryz.func34,Tryz.ntmps34
       go_wp2_with fail
       with_reducible refine (HKA.o w B0.o).mono ?_
       rintro e w1 ⟨rfl,hb⟩;have B1:=Hd (B0.o.trans (hb.mono B0.o.size));clear hb
       go_wp2_with fail
       with_reducible refine (HKB.o w1 B1.o).mono ?_
       rintro e w2 ⟨rfl,hb⟩;have B2:=Hd (B1.o.trans (hb.mono B1.o.size));clear hb
       go_wp2_with fail
       with_reducible refine (HPA.o w2).mono ?_
       rintro e w3 ⟨rfl,rfl⟩
       go_wp2_with fail
       with_reducible refine (HPB.o w2).mono ?_
       rintro e w4 ⟨rfl,rfl⟩;go_wp2;go_ret;exact ⟨by rw [HR.o];first|done|rfl,B2.o⟩
      have g1:(b == [110,117,108,108])=false:=Yah.2 hbn;have g2:decide (b=[110,117,108,108])=false:=Yaj hbn;have HBN:=Hd hbn;clear H2 hbn;by_cases han:a=[110,117,108,108]
      ·have HR:Hid (r=true):=Hd (H3.o rfl rfl rfl rfl HBN.o (.inl han));have g3:(a == [110,117,108,108])=true:=by rw [han];rfl
       have g4:decide (a=[110,117,108,108])=true:=Yar han;clear H3 H4 H6 HFA HFB HBL han;go_enter Tryz.func34,Tryz.ntmps34
       go_wp2_with fail
       with_reducible refine (HKA.o w B0.o).mono ?_
       rintro e w1 ⟨rfl,hb⟩;have B1:=Hd (B0.o.trans (hb.mono B0.o.size));clear hb
       go_wp2_with fail
       with_reducible refine (HKB.o w1 B1.o).mono ?_
       rintro e w2 ⟨rfl,hb⟩;have B2:=Hd (B1.o.trans (hb.mono B1.o.size));clear hb
       go_wp2_with fail
       with_reducible refine (HPA.o w2).mono ?_
       rintro e w3 ⟨rfl,rfl⟩
       go_wp2_with fail
       with_reducible refine (HPB.o w2).mono ?_
       rintro e w4 ⟨rfl,rfl⟩;go_wp2;go_ret;exact ⟨by rw [HR.o];first|done|rfl,B2.o⟩
      have g3:(a == [110,117,108,108])=false:=Yah.2 han;have g4:decide (a=[110,117,108,108])=false:=Yaj han;have HAN:=Hd han;clear han;by_cases hbo:b=[79,98,106,101,99,116]
      ·have HR:Hid (r=true):=Hd (H3.o rfl rfl rfl rfl HBN.o (.inr hbo));have g5:(b == [79,98,106,101,99,116])=true:=by rw [hbo];rfl
       have g6:decide (b=[79,98,106,101,99,116])=true:=Yar hbo;clear H3 H4 H6 HFA HFB HBL hbo;go_enter Tryz.func34,Tryz.ntmps34
       go_wp2_with fail
       with_reducible refine (HKA.o w B0.o).mono ?_
       rintro e w1 ⟨rfl,hb⟩;have B1:=Hd (B0.o.trans (hb.mono B0.o.size));clear hb
       go_wp2_with fail
       with_reducible refine (HKB.o w1 B1.o).mono ?_
       rintro e w2 ⟨rfl,hb⟩;have B2:=Hd (B1.o.trans (hb.mono B1.o.size));clear hb
       go_wp2_with fail
       with_reducible refine (HPA.o w2).mono ?_
       rintro e w3 ⟨rfl,rfl⟩
       go_wp2_with fail
       with_reducible refine (HPB.o w2).mono ?_
       rintro e w4 ⟨rfl,rfl⟩;go_wp2;go_ret;exact ⟨by rw [HR.o];first|done|rfl,B2.o⟩
      have g5:(b == [79,98,106,101,99,116])=false:=Yah.2 hbo;have g6:decide (b=[79,98,106,101,99,116])=false:=Yaj hbo;have H5:=Hd (fun M hM=>H4.o M hM HAB.o rfl rfl HAN.o hbo);have H7:=Hd (H6.o HAB.o rfl rfl HAN.o hbo);clear H3 H4 H6 hbo;go_enter Tryz.func34,Tryz.ntmps34
      go_wp2_with fail
      with_reducible refine (HKA.o w B0.o).mono ?_
      rintro e w1 ⟨rfl,hb⟩;have B1:=Hd (B0.o.trans (hb.mono B0.o.size));clear hb
      go_wp2_with fail
      with_reducible refine (HKB.o w1 B1.o).mono ?_
      rintro e w2 ⟨rfl,hb⟩;have B2:=Hd (B1.o.trans (hb.mono B1.o.size));clear hb
      go_wp2_with fail
      with_reducible refine (HPA.o w2).mono ?_
      rintro e w3 ⟨rfl,rfl⟩
      go_wp2_with fail
      with_reducible refine (HPB.o w2).mono ?_
      rintro e w4 ⟨rfl,rfl⟩
      go_wp2_with fail
      with_reducible refine (HFA.o w2 B2.o).mono ?_
      rintro e w5 ⟨rfl,hb⟩;have B5:=Hd (B2.o.trans (hb.mono B2.o.size));clear hb
      go_wp2_with fail
      with_reducible refine (HFB.o w5 B5.o).mono ?_
      rintro e w6 ⟨rfl,hb⟩;have B6:=Hd (B5.o.trans (hb.mono B5.o.size));clear hb;clear HKA HKB HPA HPB HFA HFB;cases oa with
      | none=>
       have i0:idxV none=(-1:Int):=rfl;rw [i0];have HR:Hid (r=false):=Hd (H7.o (.inl rfl));clear H5 H7 HBL;go_wp2;go_ret;exact ⟨by rw [HR.o];first|done|rfl,B6.o⟩
      | some i=>
       have i0:idxV (some i)=(i:Int):=rfl;have i1:(0:Int)<=(i:Int):=by omega
       rw [i0];cases ob with
       | none=>
        have j0:idxV none=(-1:Int):=rfl;rw [j0];have HR:Hid (r=false):=Hd (H7.o (.inr rfl));clear H5 H7 HBL;go_wp2;go_ret;exact ⟨by rw [HR.o];first|done|rfl,B6.o⟩
       | some j=>
        have j0:idxV (some j)=(j:Int):=rfl;have j1:(0:Int)<=(j:Int):=by omega
        rw [j0]
        go_wp2_with fail
        with_reducible refine (HBL.o w6 B6.o).mono ?_
        rintro e w7 ⟨RB,v,M,rfl,hmat,hrl,hsrc,hM,hb7⟩;obtain ⟨hil,hjl,hr⟩:=(H5.o M hM) i j rfl rfl;have B7:=Hd (B6.o.trans (hb7.mono B6.o.size));obtain ⟨rb,hrb⟩:∃ rb,RB[i]? = some rb:=⟨_,Yaa (by rw [hrl];exact hil)⟩
        obtain ⟨vo,vc,rfl⟩:=hsrc.shape;rw [hrl] at hsrc ⊢;obtain ⟨ob,oo,u,rfl,hu,_,hcl⟩:=Src.elem hsrc i rb hrb;obtain rfl:=hu;have c0:w7.cell? ⟨ob,oo+i,none⟩=some (.slice (some ⟨rb,0,none⟩) m m):=by have q:=hcl 0 _ rfl;rw [YaC] at q;exact q
        have c1:=hmat.cell hrb hjl;have c2:w7.cell? ⟨rb,0+j,none⟩=some (.bool (M i j)):=by rw [Ybd];exact c1
        have i2:(i:Int)<(m:Int):=by omega
        have j2:(j:Int)<(m:Int):=by omega
        have HR:=Hd hr;generalize M i j=x at c1 c2 HR;clear hmat hrl hsrc hM hb7 hil hjl hr hcl H5 HBL hrb;go_wp2;go_ret;exact ⟨by rw [HR.o];first|done|rfl,B7.o⟩
theorem bel_drew {w W:World} (h:Below w.heap.size w W):Below w.heap.size w W.drew:=Zab h
theorem bel_after {w W W':World} (hb:Below W.heap.size W W') (h:Below w.heap.size w W):Below w.heap.size w W':=h.trans (hb.mono h.size)
theorem joins_le (es:List Ent) (a b:List (List UInt8)):(Zam es a b).length<=a.length:=by unfold Zam;rw [List.length_zipWith];omega
