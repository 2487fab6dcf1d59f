/- laws -/
import Derived.Test.YtggcdinoflchjaaGreatDoorK79
import Derived.Test.YtggcdinoflchjaaGreatDoorKxMeUp
import Derived.Test.YtggcdinoflchjaaGreatDoorK78
set_option maxRecDepth 100000
set_option maxHeartbeats 16000000
namespace Go.Proofs.YtggcdinoflchjaaGreatDoor
open Go.RowKit
theorem Shp.Few.fit {s:Shp} (h:s.Few):s.Fit:=⟨Yan h.n1 (by decide),Yan h.n2 (by decide)⟩
theorem Zit (l:List (List UInt8)):samB ZbB l l=true:=by
 unfold samB;rw [Yar rfl,Yax];induction l with
 | nil=>rfl
 | cons x r ih=>rw [List.zip_cons_cons,YbY,ih];simp [ZbB]
theorem Shp.eq_refl (s:Shp):s.eqB s=true:=by
 unfold Shp.eqB;rw [Zit,Zit];simp
theorem Wise.joinR {es:List Ent} (W:Wise es) (a b:List UInt8) (hab:subE es a b=false) (hba:subE es b a=false) :
  Za7 es a b=if (!ZaK es a || !ZaK es b || Zas a || Zas b)=true then [] else
   match (Zal es (Zac es a)).find? (fun x=>subE es b (nmE es x)) with|some x=>nmE es x|none=>objL:=by
 have hj:Za7 es a b=match (Zal es (derE es a)).find? (fun x=>subE es b (nmE es x)) with|some x=>nmE es x|none=>[]:=by
  unfold Za7;rw [hab,hba];rfl
 rw [hj];have hnone:∀ o,((∀ x,x ∈ Zal es o->subE es b (nmE es x)=false))->(Zal es o).find? (fun x=>subE es b (nmE es x))=none:=fun o h=>by
  rw [Yby];intro x hx;rw [h x hx];decide
 by_cases hc:(!ZaK es a || !ZaK es b || Zas a || Zas b)=true
 ·rw [YaA hc];simp only [YaS,Ya7] at hc;have:∀ x,x ∈ Zal es (derE es a)->subE es b (nmE es x)=false:=by
   intro x hx;refine Za8 (fun hs=>?_);have hx2:x<es.length:=by
    obtain ⟨e,he⟩:=Zbg (W.sh.line (derE es a) (fun i h=>Zmv h)) x hx;exact (Yag.1 he).1
   have hk:=W.sub_kind hs;rcases hc with ((hc|hc)|hc)|hc
   ·-- a is no kind: nothing is on its line
    unfold derE at hx;split at hx
    ·rename_i hd
     unfold ZaK at hc;rw [hd.2] at hc;simp at hc
    ·cases hp:Zac es a with
     | none=>rw [hp,ZaC] at hx;cases hx
     | some i=>rw [W.kind_class hp] at hc;cases hc
   ·rw [hk.1] at hc;cases hc
   ·unfold derE at hx;rw [plain_dep hc] at hx;rw [Yaq (by omega)] at hx;cases hp:Zac es a with
    | none=>rw [hp,ZaC] at hx;cases hx
    | some i=>obtain ⟨_,_,_,_,h1,_⟩:=W.place hp;rw [class_plain h1] at hc;cases hc
   ·have hn:b ≠ nmE es x:=fun e=>by
     have:=(W.at hx2).2;rw [←e,] at this;rw [class_plain this] at hc;cases hc
    rw [W.s2 hn (.inl hc)] at hs;cases hs
  rw [hnone _ this]
 ·rw [Yaq hc];simp only [YaS,Ya7,not_or,Bool.not_eq_true,Bool.not_eq_false] at hc;obtain ⟨⟨⟨ka,kb⟩,pa⟩,pb⟩:=hc;have hbo:subE es b objL=true:=by
   by_cases e:b=objL
   ·rw [e];exact W.sub_self (W.kind_class W.objAt)
   ·exact W.s3 kb (W.kind_class W.objAt) pb (by decide) (by decide) (.inr rfl)
  rcases W.kind_sort ka with h|h|⟨h,hd,hp⟩|⟨i,hi⟩
  ·-- null: below all
   exfalso
   subst h;by_cases e:b=Za1
   ·rw [e,W.sub_self ka] at hab;cases hab
   ·rw [W.s3 ka kb pa pb e (.inl rfl)] at hab;cases hab
  ·rw [pa] at h;cases h
  ·unfold derE;rw [YaA ⟨h,hd⟩,hp,ZaC,W.objAt,W.line W.obj,show (⟨objC,none,[]⟩:Ent).up=none from rfl,ZaC,List.find?_cons,W.nm0,hbo];exact W.nm0
  ·obtain ⟨hl,_,_,_,hcl,_⟩:=W.place hi;have hder:derE es a=Zac es a:=by unfold derE;rw [ZcO hcl,Yaq (by omega)]
   rw [hder,hi];have:((Zal es (some i)).find? (fun x=>subE es b (nmE es x))).isSome=true:=Yco.2 ⟨0,W.zero_line hl,by rw [W.nm0];exact hbo⟩;obtain ⟨x,hx⟩:=YaL.1 this;rw [hx]
theorem Zn5 {A:Nat->Prop} (cs:List Cls) (hL:Lined cs) (W:Wise (newT cs)) (sv:Value) (a b:List UInt8) (w:World) (hs:Src 8 ClsR A w sv (allR cs)) (ha:a.length<=9223372036854775807) (hb:b.length<=9223372036854775807) :
  Calls Tryz.prog 31 #[sv,.string (S a),.string (S b)] w (ZbT (Za7 (newT cs) a b) w):=by
 have HKA:Hid (∀ V,Below w.heap.size w V->Calls Tryz.prog 60 #[sv,.string (S a)] V (fun e w'=>e=.returned (.bool (ZaK (newT cs) a))/\Below V.heap.size V w')):=Hd (fun V hV=>Zd0 cs hL.len W sv a V (ClsR.st.below hs hV) ha);have HKB:Hid (∀ V,Below w.heap.size w V->Calls Tryz.prog 60 #[sv,.string (S b)] V (fun e w'=>e=.returned (.bool (ZaK (newT cs) b))/\Below V.heap.size V w')):=Hd (fun V hV=>Zd0 cs hL.len W sv b V (ClsR.st.below hs hV) hb);have HPA:=Hd (fun V=>Zbe a V);have HPB:=Hd (fun V=>Zbe b V);have HF:Hid (∀ x V,Below w.heap.size w V->Calls Tryz.prog 53 #[sv,.string (S x)] V (fun e w'=>e=.returned (.int .i64 (idxV (Zac (newT cs) x)))/\Below V.heap.size V w')):=Hd (fun x V hV=>Zby cs hL.len sv x V (ClsR.st.below hs hV));have HSU:Hid (∀ x y V,x.length<=9223372036854775807->y.length<=9223372036854775807->Below w.heap.size w V->Calls Tryz.prog 34 #[sv,.string (S x),.string (S y)] V (fun e w'=>e=.returned (.bool (subE (newT cs) x y))/\Below V.heap.size V w')):=Hd (fun x y V hx hy hV=>rsub_any cs hL W sv x y V (ClsR.st.below hs hV) hx hy);have HJ:=Hd (fun h1 h2=>W.joinR a b h1 h2);have HJ1:Hid (subE (newT cs) a b=true->Za7 (newT cs) a b=b):=Hd (fun h=>by unfold Za7;rw [YaA h]);have HJ2:Hid (subE (newT cs) a b=false->subE (newT cs) b a=true->Za7 (newT cs) a b=a):=Hd (fun h h2=>by unfold Za7;rw [Yaq (by rw [h];simp),YaA h2]);have HW:=Hd W;have HL:=Hd hL;have HS:=Hd hs;have HA:=Hd ha;have HB:=Hd hb;obtain ⟨so,sc,rfl⟩:=hs.shape;obtain ⟨m,hm⟩:∃ m,m=(allR cs).length:=⟨_,rfl⟩
 have HM:Hid (m=(newT cs).length):=Hd (by rw [hm,ZbX,ZaT]);rw [←hm] at HKA HKB HF HSU HS ⊢;have B0:=Hd (Yab w.heap.size w);clear hs ha hb W hL hm;unfold ZbT;generalize Za7 (newT cs) a b=r at HJ HJ1 HJ2 ⊢;go_enter Tryz.func31,Tryz.ntmps31
 go_wp2_with fail
 with_reducible refine (HSU.o a b w HA.o HB.o B0.o).mono ?_
 rintro e w1 ⟨rfl,hb⟩;have B1:=Hd (B0.o.trans (hb.mono B0.o.size));clear hb;cases hab:subE (newT cs) a b with
 | true=>
  have HR:=Hd (HJ1.o hab);clear HJ HJ1 HJ2 HSU HF HKA HKB HPA HPB hab;go_wp2;go_ret;exact ⟨by rw [HR.o];first|done|rfl,B1.o⟩
 | false=>
  go_wp2_with fail
  with_reducible refine (HSU.o b a w1 HB.o HA.o B1.o).mono ?_
  rintro e w2 ⟨rfl,hb⟩;have B2:=Hd (B1.o.trans (hb.mono B1.o.size));clear hb;cases hba:subE (newT cs) b a with
  | true=>
   have HR:=Hd (HJ2.o hab hba);clear HJ HJ1 HJ2 HSU HF HKA HKB HPA HPB hab hba;go_wp2;go_ret;exact ⟨by rw [HR.o];first|done|rfl,B2.o⟩
  | false=>
   have HJ3:=Hd (HJ.o hab hba);clear HJ HJ1 HJ2 hab hba
   go_wp2_with fail
   with_reducible refine (HKA.o w2 B2.o).mono ?_
   rintro e w3 ⟨rfl,hb⟩;have B3:=Hd (B2.o.trans (hb.mono B2.o.size));clear hb;cases hka:ZaK (newT cs) a with
   | false=>
    have HR:Hid (r=[]):=Hd (by have h:=HJ3.o;rw [hka] at h;exact h);clear HJ3 HSU HF HKA HKB HPA HPB hka;go_wp2;go_ret;exact ⟨by rw [HR.o];first|done|rfl,B3.o⟩
   | true=>
    go_wp2_with fail
    with_reducible refine (HKB.o w3 B3.o).mono ?_
    rintro e w4 ⟨rfl,hb⟩;have B4:=Hd (B3.o.trans (hb.mono B3.o.size));clear hb;cases hkb:ZaK (newT cs) b with
    | false=>
     have HR:Hid (r=[]):=Hd (by have h:=HJ3.o;rw [hka,hkb] at h;exact h);clear HJ3 HSU HF HKA HKB HPA HPB hka hkb;go_wp2;go_ret;exact ⟨by rw [HR.o];first|done|rfl,B4.o⟩
    | true=>
     go_wp2_with fail
     with_reducible refine (HPA.o w4).mono ?_
     rintro e w5 ⟨rfl,rfl⟩;cases hpa:Zas a with
     | true=>
      have HR:Hid (r=[]):=Hd (by have h:=HJ3.o;rw [hka,hkb,hpa] at h;exact h);clear HJ3 HSU HF HKA HKB HPA HPB hka hkb hpa;go_wp2;go_ret;exact ⟨by rw [HR.o];first|done|rfl,B4.o⟩
     | false=>
      go_wp2_with fail
      with_reducible refine (HPB.o w4).mono ?_
      rintro e w6 ⟨rfl,rfl⟩;cases hpb:Zas b with
      | true=>
       have HR:Hid (r=[]):=Hd (by have h:=HJ3.o;rw [hka,hkb,hpa,hpb] at h;exact h);clear HJ3 HSU HF HKA HKB HPA HPB hka hkb hpa hpb;go_wp2;go_ret;exact ⟨by rw [HR.o];first|done|rfl,B4.o⟩
      | false=>
       have HR:Hid (r=match (Zal (newT cs) (Zac (newT cs) a)).find? (fun x=>subE (newT cs) b (nmE (newT cs) x)) with|some x=>nmE (newT cs) x|none=>objL):=Hd (by have h:=HJ3.o;rw [hka,hkb,hpa,hpb] at h;exact h);clear HJ3 HKA HKB HPA HPB hka hkb hpa hpb
       go_wp2_with fail
       with_reducible refine (HF.o a w4 B4.o).mono ?_
       rintro e w7 ⟨rfl,hb⟩;have B7:=Hd (B4.o.trans (hb.mono B4.o.size));clear hb;go_wp2
       go_loopw [7] (fun v7 wr=>∃ (o:Option Nat) (L1:List Nat),v7=.int .i64 (idxV o)/\(∀ i,o=some i->i<(newT cs).length)/\Zal (newT cs) (Zac (newT cs) a)=L1++Zal (newT cs) o/\(∀ x ∈ L1,subE (newT cs) b (nmE (newT cs) x)=false)/\Below w.heap.size w wr) (fun v7 _=>(Zal (newT cs) (Zlx v7)).length)
       case atStart=>exact ⟨Zac (newT cs) a,[],rfl,fun i hi=>ZaU hi,rfl,fun x hx=>(by cases hx),B7.o⟩
       case round=>
        obtain ⟨o,L1,rfl,hol,hln,hno,hbw⟩:=hrel;have HOL:=Hd hol;have HLN:=Hd hln;have HNO:=Hd hno;have BW:=Hd hbw;clear hol hln hno hbw;cases o with
        | none=>
         have i0:idxV none=(-1:Int):=rfl;rw [i0];have HR2:Hid (r=objL):=Hd (by
          rw [HR.o,HLN.o,ZaC,Ya3];have:L1.find? (fun x=>subE (newT cs) b (nmE (newT cs) x))=none:=by
           rw [Yby];intro x hx;rw [HNO.o x hx];decide
          rw [this])
         clear HR HLN HNO HSU HF;go_wp2;go_ret;exact ⟨by rw [HR2.o];first|done|rfl,BW.o⟩
        | some i=>
         have hil:=HOL.o i rfl;obtain ⟨en,hen⟩:∃ en,(newT cs)[i]? = some en:=⟨_,Yaa hil⟩
         have hx:(allR cs)[i]? = some en.cls:=by rw [Zdx,hen];rfl
         obtain ⟨b1,o1,v,rfl,hv,_,hcl⟩:=Src.elem (ClsR.st.below HS.o BW.o) i en.cls hx;obtain ⟨_,_,_,rfl,_⟩:=hv;have HC:Hid (∀ V,Below wr.heap.size wr V->V.cell? ⟨b1,o1+i * 8,none⟩=some (.string (S en.cls.name))/\V.cell? ⟨b1,o1+i * 8+1,none⟩=some (.string (S en.cls.sup))):=Hd (fun V hV=>
          have ho:=Yaf (S:=fun _=>False) hV
          ⟨ho.cell (a:=⟨b1,o1+i * 8,none⟩) (hcl 0 _ rfl) id,ho.cell (a:=⟨b1,o1+i * 8+1,none⟩) (hcl 1 _ rfl) id⟩)
         have i0:idxV (some i)=(i:Int):=rfl;have i1:(0:Int)<=(i:Int):=by omega
         have i2:(i:Int)<(m:Int):=by have:=HM.o;omega
         have HNM:Hid (nmE (newT cs) i=en.cls.name):=Hd (Ze2 hen);have HNL:Hid (en.cls.name.length<=9223372036854775807):=Hd (by have:=HW.o.sh.nm i en hen;omega);have HUP:Hid (Zac (newT cs) en.cls.sup=en.up):=Hd (HL.o.sup hen);have HUL:Hid (∀ j,en.up=some j->j<(newT cs).length):=Hd (fun j hj=>HW.o.upj i en j hen hj);have HLI:Hid (Zal (newT cs) (some i)=i :: Zal (newT cs) en.up):=Hd (HW.o.line hen);rw [i0];obtain ⟨c0,c1⟩:=HC.o wr (Yab _ _);clear hx hcl hil hen HOL
         go_wp2_with fail
         with_reducible refine (HSU.o b en.cls.name wr HB.o HNL.o BW.o).mono ?_
         rintro e w8 ⟨rfl,hb⟩;have B8:=Hd (BW.o.trans (hb.mono BW.o.size));obtain ⟨c0,c1⟩:=HC.o w8 hb;clear hb;cases hsb:subE (newT cs) b en.cls.name with
         | true=>
          have HR2:Hid (r=en.cls.name):=Hd (by
           have:(L1++Zal (newT cs) (some i)).find? (fun x=>subE (newT cs) b (nmE (newT cs) x))=some i:=by
            rw [List.find?_append,Yby.2 (fun x hx=>by rw [HNO.o x hx];decide),HLI.o,List.find?_cons,HNM.o,hsb];rfl
           rw [HR.o,HLN.o,this];exact HNM.o)
          clear HR HLN HNO HSU HF hsb HLI HNM;go_wp2;go_ret;exact ⟨by rw [HR2.o];first|done|rfl,B8.o⟩
         | false=>
          have HNO2:Hid (∀ x ∈ L1++[i],subE (newT cs) b (nmE (newT cs) x)=false):=Hd (fun x hx=>by
           rcases Yap.1 hx with h|h
           ·exact HNO.o x h
           ·rw [Yav.1 h,HNM.o];exact hsb)
          have HLN2:Hid (Zal (newT cs) (Zac (newT cs) a)=(L1++[i])++Zal (newT cs) en.up):=Hd (by rw [HLN.o,HLI.o];simp);have HME:Hid ((Zal (newT cs) en.up).length<(Zal (newT cs) (some i)).length):=Hd (by rw [HLI.o,YaJ];omega);clear hsb HLI HNM HNO HLN HR
          go_wp2_with fail
          with_reducible refine (HF.o en.cls.sup w8 B8.o).mono ?_
          rintro e w9 ⟨rfl,hb⟩;have B9:=Hd (B8.o.trans (hb.mono B8.o.size));rw [HUP.o];clear hb c0 c1;go_wp2
          go_roundw
          case rel=>exact ⟨en.up,L1++[i],rfl,HUL.o,HLN2.o,HNO2.o,B9.o⟩
          case measure=>rw [Zex,ZfO];exact HME.o
structure MX (w:World) (R O:Nat) (a1 a2:Array Value) (ss ls:List (List UInt8)) (sv lv:Value) (W:World):Prop where
 x1:Box W w.heap.size a1 24
 x2:Box W (w.heap.size+1) a2 24
 x3:Box W O #[.bool true,sv,lv] 24
 x4:Box W R #[.bool false,.slice none 0 0,.slice none 0 0] 24
 k1:KR (O+1) W sv ss
 k2:KR (O+1) W lv ls
 dj:∀ g,sv.ownBlock=some g->lv.ownBlock ≠ some g
 bel:Below w.heap.size w W
 hR:w.heap.size+1<R
 hO:R<O
theorem Zco {w:World} {R O:Nat} {a1 a2:Array Value} {ss ls:List (List UInt8)} {sv lv:Value} {W W':World} (hb:Below W.heap.size W W') (h:MX w R O a1 a2 ss ls sv lv W):MX w R O a1 a2 ss ls sv lv W':=
 ⟨h.x1.below hb,h.x2.below hb,h.x3.below hb,h.x4.below hb,h.k1.below hb,h.k2.below hb,h.dj,h.bel.trans (hb.mono h.bel.size),h.hR,h.hO⟩
theorem ZdV {w:World} {R O:Nat} {a1 a2:Array Value} {ss ls:List (List UInt8)} {sv lv:Value} {W:World} (h:MX w R O a1 a2 ss ls sv lv W):MX w R O a1 a2 ss ls sv lv W.drew:=Zco (Zab (Yab _ _)) h
theorem Zc7 {w:World} {R O:Nat} {a1 a2:Array Value} {ss ls:List (List UInt8)} {sv lv:Value} {W:World} (o:Obj) (h:MX w R O a1 a2 ss ls sv lv W):MX w R O a1 a2 ss ls sv lv (W.alloc o):=Zco (Zaa (Yab _ _) o) h
theorem Zra (w:World) (a1 a2:Array Value):MX w (w.heap.size+1+1) (w.heap.size+1+1+1) a1 a2 [] [] (.slice none 0 0) (.slice none 0 0) ((((w.alloc (.cells a1 24)).alloc (.cells a2 24)).alloc (.cells #[.bool false,.slice none 0 0,.slice none 0 0] 24)).alloc (.cells #[.bool true,.slice none 0 0,.slice none 0 0] 24)):=by
 refine ⟨?_,?_,?_,?_,KRF.nil _ _ _ _,KRF.nil _ _ _ _,(fun g hg=>by cases hg),Zaa (Zaa (Zaa (Zaa (Yab _ _) _) _) _) _,by omega,by omega⟩;all_goals
  unfold Box
  repeat (first|(exact Zaf _ _ _ (by simp))|(with_reducible apply Zar))
theorem MX.lt {w:World} {R O:Nat} {a1 a2:Array Value} {ss ls:List (List UInt8)} {sv lv:Value} {W:World} (h:MX w R O a1 a2 ss ls sv lv W):O+1<=W.heap.size:=h.x3.lt
theorem MX.app1 {w:World} {R O:Nat} {a1 a2:Array Value} {ss ls:List (List UInt8)} {sv lv:Value} {W:World} (h:MX w R O a1 a2 ss ls sv lv W) (x:List UInt8) (hl:ss.length<=1048576) (ty:TypeId) :
  ∃ v' w',(Builtin.append_ #[22,22] ty #[sv,.slice (some ⟨W.heap.size,0,none⟩) 1 1]).run Tryz.prog (W.alloc (.cells #[.string (S x)] 9))=.ok v' w'/\(∃ ao c,v'=.slice ao (ss.length+1) c)/\w'.cell? ⟨O,1,none⟩=some sv/\w'.frozen? ⟨O,1,none⟩=false/\MX w R O a1 a2 (ss++[x]) ls v' lv (w'.setCell ⟨O,1,none⟩ v'):=by
 have hlt:=h.lt;have hO:=h.hO;have hRR:=h.hR;obtain ⟨v',w',hr,hk',hg⟩:=ZeT (B:=W.heap.size) x h.k1 hlt hl rfl ty;have hown:∀ g,sv.ownBlock=some g->O+1<=g/\g<W.heap.size:=h.k1.own
 have hno:∀ g,v'.ownBlock=some g->O+1<=g:=fun g e=>by
  rcases hg.came with q|q
  ·exact (hown g (q ▸ e)).1
  ·have:=q g e;omega
 have hx1:=h.x1.keep hg.only (fun e=>by have:=(hown _ e).1;omega);have hx2:=h.x2.keep hg.only (fun e=>by have:=(hown _ e).1;omega);have hx3:=h.x3.keep hg.only (fun e=>by have:=(hown _ e).1;omega);have hx4:=h.x4.keep hg.only (fun e=>by have:=(hown _ e).1;omega);have hk2:=h.k2.keep hg.only (fun g hg2 e=>h.dj g e hg2);have hb:Below w.heap.size w w':=h.bel.trans (hg.only.below h.bel.size (fun i e=>by have:=(hown _ e).1;omega));have ho:Only (fun i=>i=O) w' (w'.setCell ⟨O,1,none⟩ v'):=(Yam (fun i=>i=O) w').setCell (p:=⟨O,1,none⟩) rfl _;refine ⟨v',w',hr,?_,hx3.cell 1 rfl,hx3.free 1,⟨hx1.keep ho (by omega),hx2.keep ho (by omega),hx3.set 1 v',hx4.keep ho (by omega),hk'.keep ho (fun g hg2 e=>by have:=hno g hg2;omega),hk2.keep ho (fun g hg2 e=>by have:=(h.k2.own g hg2).1;omega),(fun g hg2 e=>?_),hb.setCell (by show w.heap.size<=O;omega) _,hRR,hO⟩⟩
 ·obtain ⟨ao,c,e⟩:=hk'.shape;rw [Yal] at e;exact ⟨ao,c,e⟩
 ·rcases hg.came with q|q
  ·exact h.dj g (q ▸ hg2) e
  ·have h1:=q g hg2;have h2:=(h.k2.own g e).2;omega
theorem MX.app2 {w:World} {R O:Nat} {a1 a2:Array Value} {ss ls:List (List UInt8)} {sv lv:Value} {W:World} (h:MX w R O a1 a2 ss ls sv lv W) (x:List UInt8) (hl:ls.length<=1048576) (ty:TypeId) :
  ∃ v' w',(Builtin.append_ #[22,22] ty #[lv,.slice (some ⟨W.heap.size,0,none⟩) 1 1]).run Tryz.prog (W.alloc (.cells #[.string (S x)] 9))=.ok v' w'/\(∃ ao c,v'=.slice ao (ls.length+1) c)/\w'.cell? ⟨O,2,none⟩=some lv/\w'.frozen? ⟨O,2,none⟩=false/\MX w R O a1 a2 ss (ls++[x]) sv v' (w'.setCell ⟨O,2,none⟩ v'):=by
 have hlt:=h.lt;have hO:=h.hO;have hRR:=h.hR;obtain ⟨v',w',hr,hk',hg⟩:=ZeT (B:=W.heap.size) x h.k2 hlt hl rfl ty;have hown:∀ g,lv.ownBlock=some g->O+1<=g/\g<W.heap.size:=h.k2.own
 have hno:∀ g,v'.ownBlock=some g->O+1<=g:=fun g e=>by
  rcases hg.came with q|q
  ·exact (hown g (q ▸ e)).1
  ·have:=q g e;omega
 have hx1:=h.x1.keep hg.only (fun e=>by have:=(hown _ e).1;omega);have hx2:=h.x2.keep hg.only (fun e=>by have:=(hown _ e).1;omega);have hx3:=h.x3.keep hg.only (fun e=>by have:=(hown _ e).1;omega);have hx4:=h.x4.keep hg.only (fun e=>by have:=(hown _ e).1;omega);have hk1:=h.k1.keep hg.only (fun g hg2 e=>h.dj g hg2 e);have hb:Below w.heap.size w w':=h.bel.trans (hg.only.below h.bel.size (fun i e=>by have:=(hown _ e).1;omega));have ho:Only (fun i=>i=O) w' (w'.setCell ⟨O,2,none⟩ v'):=(Yam (fun i=>i=O) w').setCell (p:=⟨O,2,none⟩) rfl _;refine ⟨v',w',hr,?_,hx3.cell 2 rfl,hx3.free 2,⟨hx1.keep ho (by omega),hx2.keep ho (by omega),hx3.set 2 v',hx4.keep ho (by omega),hk1.keep ho (fun g hg2 e=>by have:=(h.k1.own g hg2).1;omega),hk'.keep ho (fun g hg2 e=>by have:=hno g hg2;omega),(fun g hg2 e=>?_),hb.setCell (by show w.heap.size<=O;omega) _,hRR,hO⟩⟩
 ·obtain ⟨ao,c,e⟩:=hk'.shape;rw [Yal] at e;exact ⟨ao,c,e⟩
 ·rcases hg.came with q|q
  ·exact h.dj g hg2 (q ▸ e)
  ·have h1:=q g e;have h2:=(h.k1.own g hg2).2;omega
theorem Zn9 {A:Nat->Prop} {w:World} {s:Shp} {v:Value} (h:ShpR A w s v):ShpR Anyw w s v:=by
 obtain ⟨a,b,e,h1,h2⟩:=h;exact ⟨a,b,e,StrR.st.any h1,StrR.st.any h2⟩
theorem ZnA {l:List (List UInt8)} {k:Nat} {x:List UInt8} (hx:l[k]? = some x) (h0:Zbh (l.take k)=false) (hn:x ≠ []):Zbh (l.take (k+1))=false:=by
 unfold Zbh at h0 ⊢;rw [YaI,hx,List.any_append,h0];simp [hn]
theorem Zqy {l:List (List UInt8)} {k:Nat} (hx:l[k]? = some []):Zbh l=true:=by
 unfold Zbh;rw [YaN];exact ⟨[],Yad hx,rfl⟩
theorem Zjq {A A1 A2:Nat->Prop} (cs:List Cls) (hL:Lined cs) (W0:Wise (newT cs)) (tv:Value) (a b:Shp) (u v:Value) (w:World) (ht:Src 8 ClsR A w tv (allR cs)) (hu:ShpR A1 w a u) (hv:ShpR A2 w b v) (ha:a.Small) (hb:b.Small) :
  Calls Tryz.prog 14 #[tv,u,v] w (DoG (ZaR (newT cs) a b) w):=by
 have HU:=Hd (Zn9 hu);have HV:=Hd (Zn9 hv);obtain ⟨s1,l1,rfl,hs1,hl1⟩:=hu;obtain ⟨s2,l2,rfl,hs2,hl2⟩:=hv;obtain ⟨so1,sc1,rfl⟩:=hs1.shape;obtain ⟨lo1,lc1,rfl⟩:=hl1.shape;obtain ⟨so2,sc2,rfl⟩:=hs2.shape;obtain ⟨lo2,lc2,rfl⟩:=hl2.shape;have E1:=Hd (Src.elem hs1);have E2:=Hd (Src.elem hs2);have E3:=Hd (Src.elem hl1);have E4:=Hd (Src.elem hl2);have HJN:Hid (∀ W x y,Below w.heap.size w W->x.length<=281474976710656->y.length<=281474976710656->Calls Tryz.prog 31 #[tv,.string (S x),.string (S y)] W (ZbT (Za7 (newT cs) x y) W)):=Hd (fun W x y h h1 h2=>Zn5 cs hL W0 tv x y W (ClsR.st.below ht h) (by omega) (by omega));have HA:=Hd ha;have HB:=Hd hb;generalize newT cs=es at HJN ⊢;obtain ⟨R,hr⟩:∃ R,R=ZaR es a b:=⟨_,rfl⟩
 rw [←hr];unfold ZaR at hr;have HR:=Hd hr;obtain ⟨n1,hn1⟩:∃ n,n=a.stk.length:=⟨_,rfl⟩
 obtain ⟨n2,hn2⟩:∃ n,n=b.stk.length:=⟨_,rfl⟩
 obtain ⟨m1,hm1⟩:∃ n,n=a.loc.length:=⟨_,rfl⟩
 obtain ⟨m2,hm2⟩:∃ n,n=b.loc.length:=⟨_,rfl⟩
 have hz1:n1<=1048576:=by rw [hn1];exact ha.n1
 have hz2:m1<=1048576:=by rw [hm1];exact ha.n2
 have hz3:n2<=1048576:=by rw [hn2];exact hb.n1
 have hz4:m2<=1048576:=by rw [hm2];exact hb.n2
 rw [←hn1,←hm1] at HU;rw [←hn2,←hm2] at HV;rw [←hn1,←hn2,←hm1,←hm2] at HR ⊢;have N1:=Hd hn1;have N2:=Hd hn2;have M1:=Hd hm1;have M2:=Hd hm2;obtain ⟨q1,hq1⟩:∃ q,q=a.seen:=⟨_,rfl⟩
 obtain ⟨q2,hq2⟩:∃ q,q=b.seen:=⟨_,rfl⟩
 rw [←hq1] at HU HR;rw [←hq2] at HV HR;rw [←hq1,←hq2];unfold ZbT at HJN;unfold DoG;clear hs1 hs2 hl1 hl2 ht ha hb hr hn1 hn2 hm1 hm2 hq1 hq2 hL W0;have HX:=Hd (Zra w #[.bool q1,.slice so1 n1 sc1,.slice lo1 m1 lc1] #[.bool q2,.slice so2 n2 sc2,.slice lo2 m2 lc2]);obtain ⟨w3,hw3⟩:∃ w3,w3=(((w.alloc (.cells #[.bool q1,.slice so1 n1 sc1,.slice lo1 m1 lc1] 24)).alloc (.cells #[.bool q2,.slice so2 n2 sc2,.slice lo2 m2 lc2] 24)).alloc (.cells #[.bool false,.slice none 0 0,.slice none 0 0] 24)):=⟨_,rfl⟩
 have XR:Hid (Box w3 (w.heap.size+1+1) #[.bool false,.slice none 0 0,.slice none 0 0] 24):=Hd (by rw [hw3];unfold Box;exact Zaf _ _ _ (by simp));have XA:Hid (Box w3 w.heap.size #[.bool q1,.slice so1 n1 sc1,.slice lo1 m1 lc1] 24):=Hd (by rw [hw3];unfold Box;repeat (first|(exact Zaf _ _ _ (by simp))|(with_reducible apply Zar)));have XB:Hid (Box w3 (w.heap.size+1) #[.bool q2,.slice so2 n2 sc2,.slice lo2 m2 lc2] 24):=Hd (by rw [hw3];unfold Box;repeat (first|(exact Zaf _ _ _ (by simp))|(with_reducible apply Zar)));have HB3:Hid (Below w.heap.size w w3):=Hd (by rw [hw3];exact Zaa (Zaa (Zaa (Yab _ _) _) _) _);have HU3:=Hd (ShpR.below HU.o HB3.o);have HV3:=Hd (ShpR.below HV.o HB3.o);clear HU3 HV3;by_cases g1:q1=false
 ·subst g1;have HRE:Hid (R=(b,0)):=Hd (by rw [HR.o];rfl);have a0:=XA.o.cell 0 rfl;have b0:=XB.o.cell 0 rfl;have b1:=XB.o.cell 1 rfl;have b2:=XB.o.cell 2 rfl;clear HR HX XA XB HU HJN E1 E2 E3 E4;go_enter Tryz.func14,Tryz.ntmps14
  go_upto_region 1 with fail
  rw [←hw3];clear hw3;have hzR:=XR.o.lt;have ho9:Only (fun i=>i=w.heap.size+1+1) w3 (((w3.setCell ⟨w.heap.size+1+1,0,none⟩ (.bool q2)).setCell ⟨w.heap.size+1+1,1,none⟩ (.slice so2 n2 sc2)).setCell ⟨w.heap.size+1+1,2,none⟩ (.slice lo2 m2 lc2)):=(((Yam (fun i=>i=w.heap.size+1+1) w3).setCell (p:=⟨w.heap.size+1+1,0,none⟩) rfl _).setCell (p:=⟨w.heap.size+1+1,1,none⟩) rfl _).setCell (p:=⟨w.heap.size+1+1,2,none⟩) rfl _;have l:=ZaA (P:=Tryz.prog) (cs:=#[(.bool q2),(.slice so2 n2 sc2),(.slice lo2 m2 lc2)]) (((XR.o.set 0 (.bool q2)).set 1 (.slice so2 n2 sc2)).set 2 (.slice lo2 m2 lc2)) Tryz.underlying24 rfl Za2;have hb9:=HB3.o.trans (ho9.below HB3.o.size (fun i e=>by rw [e];omega));have HDG:Hid (∃ z,(Ending.returned (.tuple #[.agg #[(.bool q2),(.slice so2 n2 sc2),(.slice lo2 m2 lc2)],.int .i64 0]))=.returned (.tuple #[z,.int .i64 (R.2:Nat)])/\ShpR Anyw (((w3.setCell ⟨w.heap.size+1+1,0,none⟩ (.bool q2)).setCell ⟨w.heap.size+1+1,1,none⟩ (.slice so2 n2 sc2)).setCell ⟨w.heap.size+1+1,2,none⟩ (.slice lo2 m2 lc2)) R.1 z/\Below w.heap.size w (((w3.setCell ⟨w.heap.size+1+1,0,none⟩ (.bool q2)).setCell ⟨w.heap.size+1+1,1,none⟩ (.slice so2 n2 sc2)).setCell ⟨w.heap.size+1+1,2,none⟩ (.slice lo2 m2 lc2))):=Hd (by
   rw [HRE.o];exact ⟨_,rfl,ShpR.below HV.o hb9,hb9⟩)
  clear hb9 ho9 hzR;have r0:=XR.o.cell 0 rfl;have r1:=XR.o.cell 1 rfl;have r2:=XR.o.cell 2 rfl;have z0:=XR.o.free 0;have z1:=XR.o.free 1;have z2:=XR.o.free 2;go_wp2;refine bodyPost_ret (v:=.tuple #[.agg #[(.bool q2),(.slice so2 n2 sc2),(.slice lo2 m2 lc2)],.int .i64 0]) ?_ rfl HDG.o;simp only [results,Tryz.results14];simp [asAddr,l]
 obtain rfl:q1=true:=by cases q1 with|false=>exact absurd rfl g1|true=>rfl
 clear g1;by_cases g2:q2=false
 ·subst g2;have HRE:Hid (R=(a,0)):=Hd (by rw [HR.o];rfl);have a0:=XA.o.cell 0 rfl;have a1:=XA.o.cell 1 rfl;have a2:=XA.o.cell 2 rfl;have b0:=XB.o.cell 0 rfl;clear HR HX XA XB HV HJN E1 E2 E3 E4;go_enter Tryz.func14,Tryz.ntmps14
  go_upto_region 1 with fail
  rw [←hw3];clear hw3;have hzR:=XR.o.lt;have ho9:Only (fun i=>i=w.heap.size+1+1) w3 (((w3.setCell ⟨w.heap.size+1+1,0,none⟩ (.bool true)).setCell ⟨w.heap.size+1+1,1,none⟩ (.slice so1 n1 sc1)).setCell ⟨w.heap.size+1+1,2,none⟩ (.slice lo1 m1 lc1)):=(((Yam (fun i=>i=w.heap.size+1+1) w3).setCell (p:=⟨w.heap.size+1+1,0,none⟩) rfl _).setCell (p:=⟨w.heap.size+1+1,1,none⟩) rfl _).setCell (p:=⟨w.heap.size+1+1,2,none⟩) rfl _;have l:=ZaA (P:=Tryz.prog) (cs:=#[(.bool true),(.slice so1 n1 sc1),(.slice lo1 m1 lc1)]) (((XR.o.set 0 (.bool true)).set 1 (.slice so1 n1 sc1)).set 2 (.slice lo1 m1 lc1)) Tryz.underlying24 rfl Za2;have hb9:=HB3.o.trans (ho9.below HB3.o.size (fun i e=>by rw [e];omega));have HDG:Hid (∃ z,(Ending.returned (.tuple #[.agg #[(.bool true),(.slice so1 n1 sc1),(.slice lo1 m1 lc1)],.int .i64 0]))=.returned (.tuple #[z,.int .i64 (R.2:Nat)])/\ShpR Anyw (((w3.setCell ⟨w.heap.size+1+1,0,none⟩ (.bool true)).setCell ⟨w.heap.size+1+1,1,none⟩ (.slice so1 n1 sc1)).setCell ⟨w.heap.size+1+1,2,none⟩ (.slice lo1 m1 lc1)) R.1 z/\Below w.heap.size w (((w3.setCell ⟨w.heap.size+1+1,0,none⟩ (.bool true)).setCell ⟨w.heap.size+1+1,1,none⟩ (.slice so1 n1 sc1)).setCell ⟨w.heap.size+1+1,2,none⟩ (.slice lo1 m1 lc1))):=Hd (by
   rw [HRE.o];exact ⟨_,rfl,ShpR.below HU.o hb9,hb9⟩)
  clear hb9 ho9 hzR;have r0:=XR.o.cell 0 rfl;have r1:=XR.o.cell 1 rfl;have r2:=XR.o.cell 2 rfl;have z0:=XR.o.free 0;have z1:=XR.o.free 1;have z2:=XR.o.free 2;go_wp2;refine bodyPost_ret (v:=.tuple #[.agg #[(.bool true),(.slice so1 n1 sc1),(.slice lo1 m1 lc1)],.int .i64 0]) ?_ rfl HDG.o;simp only [results,Tryz.results14];simp [asAddr,l]
 obtain rfl:q2=true:=by cases q2 with|false=>exact absurd rfl g2|true=>rfl
 clear g2 HU HV;have a0:=XA.o.cell 0 rfl;have a1:=XA.o.cell 1 rfl;have a2:=XA.o.cell 2 rfl;have b0:=XB.o.cell 0 rfl;have b1:=XB.o.cell 1 rfl;have b2:=XB.o.cell 2 rfl;by_cases g1:n1=n2
 case neg=>
  have HRE:Hid (R=(Shp.zero,75)):=Hd (by rw [HR.o,Yaq (by decide),Yaq (by decide),Yaq (fun h=>g1 h.1)]);have hq:((n1:Int) != (n2:Int))=true:=by rw [bne_iff_ne];omega
  clear HR HX XA XB HJN E1 E2 E3 E4 g1;go_enter Tryz.func14,Tryz.ntmps14
  go_upto_region 1 with fail
  rw [←hw3];clear hw3;have hzR:=XR.o.lt;have ho9:Only (fun i=>i=w.heap.size+1+1) w3 (((w3.setCell ⟨w.heap.size+1+1,0,none⟩ (.bool false)).setCell ⟨w.heap.size+1+1,1,none⟩ (.slice none 0 0)).setCell ⟨w.heap.size+1+1,2,none⟩ (.slice none 0 0)):=(((Yam (fun i=>i=w.heap.size+1+1) w3).setCell (p:=⟨w.heap.size+1+1,0,none⟩) rfl _).setCell (p:=⟨w.heap.size+1+1,1,none⟩) rfl _).setCell (p:=⟨w.heap.size+1+1,2,none⟩) rfl _;have l:=ZaA (P:=Tryz.prog) (cs:=#[(.bool false),(.slice none 0 0),(.slice none 0 0)]) (((XR.o.set 0 (.bool false)).set 1 (.slice none 0 0)).set 2 (.slice none 0 0)) Tryz.underlying24 rfl Za2;have hb9:=HB3.o.trans (ho9.below HB3.o.size (fun i e=>by rw [e];omega));have HDG:Hid (∃ z,(Ending.returned (.tuple #[.agg #[(.bool false),(.slice none 0 0),(.slice none 0 0)],.int .i64 75]))=.returned (.tuple #[z,.int .i64 (R.2:Nat)])/\ShpR Anyw (((w3.setCell ⟨w.heap.size+1+1,0,none⟩ (.bool false)).setCell ⟨w.heap.size+1+1,1,none⟩ (.slice none 0 0)).setCell ⟨w.heap.size+1+1,2,none⟩ (.slice none 0 0)) R.1 z/\Below w.heap.size w (((w3.setCell ⟨w.heap.size+1+1,0,none⟩ (.bool false)).setCell ⟨w.heap.size+1+1,1,none⟩ (.slice none 0 0)).setCell ⟨w.heap.size+1+1,2,none⟩ (.slice none 0 0))):=Hd (by
   rw [HRE.o];exact ⟨_,rfl,⟨_,_,rfl,Src.nil,Src.nil⟩,hb9⟩)
  clear hb9 ho9 hzR;have r0:=XR.o.cell 0 rfl;have r1:=XR.o.cell 1 rfl;have r2:=XR.o.cell 2 rfl;have z0:=XR.o.free 0;have z1:=XR.o.free 1;have z2:=XR.o.free 2;go_wp2;refine bodyPost_ret (v:=.tuple #[.agg #[(.bool false),(.slice none 0 0),(.slice none 0 0)],.int .i64 75]) ?_ rfl HDG.o;simp only [results,Tryz.results14];simp [asAddr,l]
 subst g1;by_cases g2:m1=m2
 case neg=>
  have HRE:Hid (R=(Shp.zero,75)):=Hd (by rw [HR.o,Yaq (by decide),Yaq (by decide),Yaq (fun h=>g2 h.2)]);have hq:((m1:Int) != (m2:Int))=true:=by rw [bne_iff_ne];omega
  clear HR HX XA XB HJN E1 E2 E3 E4 g2;go_enter Tryz.func14,Tryz.ntmps14
  go_upto_region 1 with fail
  rw [←hw3];clear hw3;have hzR:=XR.o.lt;have ho9:Only (fun i=>i=w.heap.size+1+1) w3 (((w3.setCell ⟨w.heap.size+1+1,0,none⟩ (.bool false)).setCell ⟨w.heap.size+1+1,1,none⟩ (.slice none 0 0)).setCell ⟨w.heap.size+1+1,2,none⟩ (.slice none 0 0)):=(((Yam (fun i=>i=w.heap.size+1+1) w3).setCell (p:=⟨w.heap.size+1+1,0,none⟩) rfl _).setCell (p:=⟨w.heap.size+1+1,1,none⟩) rfl _).setCell (p:=⟨w.heap.size+1+1,2,none⟩) rfl _;have l:=ZaA (P:=Tryz.prog) (cs:=#[(.bool false),(.slice none 0 0),(.slice none 0 0)]) (((XR.o.set 0 (.bool false)).set 1 (.slice none 0 0)).set 2 (.slice none 0 0)) Tryz.underlying24 rfl Za2;have hb9:=HB3.o.trans (ho9.below HB3.o.size (fun i e=>by rw [e];omega));have HDG:Hid (∃ z,(Ending.returned (.tuple #[.agg #[(.bool false),(.slice none 0 0),(.slice none 0 0)],.int .i64 75]))=.returned (.tuple #[z,.int .i64 (R.2:Nat)])/\ShpR Anyw (((w3.setCell ⟨w.heap.size+1+1,0,none⟩ (.bool false)).setCell ⟨w.heap.size+1+1,1,none⟩ (.slice none 0 0)).setCell ⟨w.heap.size+1+1,2,none⟩ (.slice none 0 0)) R.1 z/\Below w.heap.size w (((w3.setCell ⟨w.heap.size+1+1,0,none⟩ (.bool false)).setCell ⟨w.heap.size+1+1,1,none⟩ (.slice none 0 0)).setCell ⟨w.heap.size+1+1,2,none⟩ (.slice none 0 0))):=Hd (by
   rw [HRE.o];exact ⟨_,rfl,⟨_,_,rfl,Src.nil,Src.nil⟩,hb9⟩)
  clear hb9 ho9 hzR;have r0:=XR.o.cell 0 rfl;have r1:=XR.o.cell 1 rfl;have r2:=XR.o.cell 2 rfl;have z0:=XR.o.free 0;have z1:=XR.o.free 1;have z2:=XR.o.free 2;go_wp2;refine bodyPost_ret (v:=.tuple #[.agg #[(.bool false),(.slice none 0 0),(.slice none 0 0)],.int .i64 75]) ?_ rfl HDG.o;simp only [results,Tryz.results14];simp [asAddr,l]
 subst g2;have HR0:Hid (R=if Zbh (Zam es a.stk b.stk)=true then (Shp.zero,75) else (⟨true,Zam es a.stk b.stk,Zam es a.loc b.loc⟩,0)):=Hd (by rw [HR.o,Yaq (by decide),Yaq (by decide),YaA ⟨rfl,rfl⟩]);have HL1:Hid ((Zam es a.stk b.stk).length=n1):=Hd (by rw [Zb6 (by rw [←N1.o];exact N2.o),←N1.o]);have HL2:Hid ((Zam es a.loc b.loc).length=m1):=Hd (by rw [Zb6 (by rw [←M1.o];exact M2.o),←M1.o]);clear HR;go_enter Tryz.func14,Tryz.ntmps14
 go_upto_region 1 with fail
 rw [←hw3] at HX ⊢;have hsz3:w3.heap.size=w.heap.size+1+1+1:=by rw [hw3];simp
 clear hw3
 go_upto_region 8 with fail
 obtain ⟨w4,hw4⟩:∃ w4,w4=w3.alloc (.cells #[.bool true,.slice none 0 0,.slice none 0 0] 24):=⟨_,rfl⟩
 rw [←hw4] at HX ⊢;clear hw4 a0 a1 a2 b0 b1 b2 XA XB XR HB3 hsz3;obtain ⟨O,hO⟩:∃ O,O=w.heap.size+1+1+1:=⟨_,rfl⟩
 rw [←hO] at HX ⊢;clear hO;have HMB:Hid (∀ ss ls sv lv W,MX w (w.heap.size+1+1) O #[.bool true,.slice so1 n1 sc1,.slice lo1 m1 lc1] #[.bool true,.slice so2 n1 sc2,.slice lo2 m1 lc2] ss ls sv lv W->Below w.heap.size w W):=Hd (fun ss ls sv lv W h=>h.bel);go_wp2
 go_loopw [9] (fun v9 wr=>∃ (k:Nat) (sv:Value),k<=n1/\v9=.int .i64 k/\Zbh ((Zam es a.stk b.stk).take k)=false/\MX w (w.heap.size+1+1) O #[.bool true,.slice so1 n1 sc1,.slice lo1 m1 lc1] #[.bool true,.slice so2 n1 sc2,.slice lo2 m1 lc2] ((Zam es a.stk b.stk).take k) [] sv (.slice none 0 0) wr) (fun v9 _=>n1 - (intOf v9).toNat)
 case atStart=>exact ⟨0,_,Yai _,rfl,rfl,by rw [YbM];exact HX.o⟩
 case round=>
  obtain ⟨k,sv,hk,rfl,hnn,hmx⟩:=hrel;have HNN:=Hd hnn;have HM:=Hd hmx;clear hnn hmx;have c1:=HM.o.x1.cell 1 rfl;by_cases hlt:k<n1
  ·obtain ⟨x,hx⟩:∃ x,a.stk[k]? = some x:=⟨_,Yaa (by rw [←N1.o];exact hlt)⟩
   obtain ⟨y,hy⟩:∃ y,b.stk[k]? = some y:=⟨_,Yaa (by rw [←N2.o];exact hlt)⟩
   obtain ⟨b1,o1,u1,rfl,hu1,_,hc1⟩:=E1.o k x hx;obtain ⟨b2,o2,u2,rfl,hu2,_,hc2⟩:=E2.o k y hy;obtain rfl:=hu1;obtain rfl:=hu2;have HJS:Hid (∀ ss ls sv lv W,MX w (w.heap.size+1+1) O #[.bool true,.slice (some ⟨b1,o1,none⟩) n1 sc1,.slice lo1 m1 lc1] #[.bool true,.slice (some ⟨b2,o2,none⟩) n1 sc2,.slice lo2 m1 lc2] ss ls sv lv W->W.cell? ⟨w.heap.size,1,none⟩=some (.slice (some ⟨b1,o1,none⟩) n1 sc1)/\W.cell? ⟨w.heap.size+1,1,none⟩=some (.slice (some ⟨b2,o2,none⟩) n1 sc2)/\W.cell? ⟨b1,o1+k,none⟩=some (.string (S x))/\W.cell? ⟨b2,o2+k,none⟩=some (.string (S y))):=Hd (fun ss ls sv lv W h=>by
    have hoW:=Yaf (S:=fun _=>False) h.bel;exact ⟨h.x1.cell 1 rfl,h.x2.cell 1 rfl,
     hoW.cell (a:=⟨b1,o1+k,none⟩) (by have p:=hc1 0 _ rfl;rw [YaC] at p;exact p) id,
     hoW.cell (a:=⟨b2,o2+k,none⟩) (by have p:=hc2 0 _ rfl;rw [YaC] at p;exact p) id⟩)
   have HJX:Hid (∀ W,Below w.heap.size w W->Calls Tryz.prog 31 #[tv,.string (S x),.string (S y)] W (fun e w'=>e=.returned (.string (S (Za7 es x y)))/\Below W.heap.size W w')):=Hd (fun W hW=>HJN.o W x y hW (HA.o.k1 x (Yad hx)) (HB.o.k1 y (Yad hy)));have HJK:Hid ((Zam es a.stk b.stk)[k]? = some (Za7 es x y)):=Hd (ZgZ hx hy);generalize Za7 es x y=j at HJX HJK;have hk0:(0:Int)<=(k:Int):=by omega
   have hkn:(k:Int)<(n1:Int):=by omega
   obtain ⟨g1,g2,g3,g4⟩:=HJS.o _ _ _ _ wr HM.o;have m0:=HM.o;clear hc1 hc2 hx hy c1;by_cases hj0:j=[]
   ·have HRE:Hid (R=(Shp.zero,75)):=Hd (by rw [HR0.o,YaA (Zqy (by rw [HJK.o,hj0]))]);have hse:S j=⟨#[]⟩:=by rw [hj0];rfl
    rw [hse] at HJX;clear hj0 hse HJK
    go_upto_region 11 with fail
    first
    | (go_region_held (fun W=>W.cell? ⟨w.heap.size,1,none⟩=some (.slice (some ⟨b1,o1,none⟩) n1 sc1)/\W.cell? ⟨w.heap.size+1,1,none⟩=some (.slice (some ⟨b2,o2,none⟩) n1 sc2)/\W.cell? ⟨b1,o1+k,none⟩=some (.string (S x))/\W.cell? ⟨b2,o2+k,none⟩=some (.string (S y))) ((refine HJS.o ((Zam es a.stk b.stk).take k) [] sv (.slice none 0 0) _ ?_;(repeat (first|(with_reducible assumption)|(with_reducible refine ZdV ?_)|(with_reducible (apply Zco;assumption))|(with_reducible refine Zc7 _ ?_)))))
      ((go_at_call 31;(with_reducible refine (HJX.o _ ?_).mono ?_);(focus (refine HMB.o ((Zam es a.stk b.stk).take k) [] sv (.slice none 0 0) _ ?_;(repeat (first|(with_reducible assumption)|(with_reducible refine ZdV ?_)|(with_reducible (apply Zco;assumption))|(with_reducible refine Zc7 _ ?_)));done));rintro en w2 ⟨rfl,hb2⟩)))
    | fail
    all_goals
     have m2:MX w (w.heap.size+1+1) O #[.bool true,.slice (some ⟨b1,o1,none⟩) n1 sc1,.slice lo1 m1 lc1] #[.bool true,.slice (some ⟨b2,o2,none⟩) n1 sc2,.slice lo2 m1 lc2] ((Zam es a.stk b.stk).take k) [] sv (.slice none 0 0) w2:=by (repeat (first|(with_reducible assumption)|(with_reducible refine ZdV ?_)|(with_reducible (apply Zco;assumption))|(with_reducible refine Zc7 _ ?_)))
     have XR2:=Hd m2.x4;have HB2:=Hd m2.bel;clear m2 m0 hb2 g1 g2 g3 g4 HJS HJX HM HNN;have hzR:=XR2.o.lt;have ho9:Only (fun i=>i=w.heap.size+1+1) w2 (((w2.setCell ⟨w.heap.size+1+1,0,none⟩ (.bool false)).setCell ⟨w.heap.size+1+1,1,none⟩ (.slice none 0 0)).setCell ⟨w.heap.size+1+1,2,none⟩ (.slice none 0 0)):=(((Yam (fun i=>i=w.heap.size+1+1) w2).setCell (p:=⟨w.heap.size+1+1,0,none⟩) rfl _).setCell (p:=⟨w.heap.size+1+1,1,none⟩) rfl _).setCell (p:=⟨w.heap.size+1+1,2,none⟩) rfl _;have l:=ZaA (P:=Tryz.prog) (cs:=#[(.bool false),(.slice none 0 0),(.slice none 0 0)]) (((XR2.o.set 0 (.bool false)).set 1 (.slice none 0 0)).set 2 (.slice none 0 0)) Tryz.underlying24 rfl Za2;have hb9:=HB2.o.trans (ho9.below HB2.o.size (fun i e=>by rw [e];omega));have HDG:Hid (∃ z,(Ending.returned (.tuple #[.agg #[(.bool false),(.slice none 0 0),(.slice none 0 0)],.int .i64 75]))=.returned (.tuple #[z,.int .i64 (R.2:Nat)])/\ShpR Anyw (((w2.setCell ⟨w.heap.size+1+1,0,none⟩ (.bool false)).setCell ⟨w.heap.size+1+1,1,none⟩ (.slice none 0 0)).setCell ⟨w.heap.size+1+1,2,none⟩ (.slice none 0 0)) R.1 z/\Below w.heap.size w (((w2.setCell ⟨w.heap.size+1+1,0,none⟩ (.bool false)).setCell ⟨w.heap.size+1+1,1,none⟩ (.slice none 0 0)).setCell ⟨w.heap.size+1+1,2,none⟩ (.slice none 0 0))):=Hd (by
      rw [HRE.o];exact ⟨_,rfl,⟨_,_,rfl,Src.nil,Src.nil⟩,hb9⟩)
     clear hb9 ho9 hzR;have r0:=XR2.o.cell 0 rfl;have r1:=XR2.o.cell 1 rfl;have r2:=XR2.o.cell 2 rfl;have z0:=XR2.o.free 0;have z1:=XR2.o.free 1;have z2:=XR2.o.free 2;go_wp2;refine bodyPost_ret (v:=.tuple #[.agg #[(.bool false),(.slice none 0 0),(.slice none 0 0)],.int .i64 75]) ?_ rfl HDG.o;simp only [results,Tryz.results14];simp [asAddr,l]
   ·have hse:j.isEmpty=false:=by
     cases j with
     | nil=>exact absurd rfl hj0
     | cons _ _=>rfl
    have e0:=Zae j;have HJ0:=Hd hj0;clear hj0
    go_upto_region 11 with fail
    first
    | (go_region_held (fun W=>W.cell? ⟨w.heap.size,1,none⟩=some (.slice (some ⟨b1,o1,none⟩) n1 sc1)/\W.cell? ⟨w.heap.size+1,1,none⟩=some (.slice (some ⟨b2,o2,none⟩) n1 sc2)/\W.cell? ⟨b1,o1+k,none⟩=some (.string (S x))/\W.cell? ⟨b2,o2+k,none⟩=some (.string (S y))) ((refine HJS.o ((Zam es a.stk b.stk).take k) [] sv (.slice none 0 0) _ ?_;(repeat (first|(with_reducible assumption)|(with_reducible refine ZdV ?_)|(with_reducible (apply Zco;assumption))|(with_reducible refine Zc7 _ ?_)))))
      ((go_at_call 31;(with_reducible refine (HJX.o _ ?_).mono ?_);(focus (refine HMB.o ((Zam es a.stk b.stk).take k) [] sv (.slice none 0 0) _ ?_;(repeat (first|(with_reducible assumption)|(with_reducible refine ZdV ?_)|(with_reducible (apply Zco;assumption))|(with_reducible refine Zc7 _ ?_)));done));rintro en w2 ⟨rfl,hb2⟩)))
    | fail
    all_goals
     have m2:MX w (w.heap.size+1+1) O #[.bool true,.slice (some ⟨b1,o1,none⟩) n1 sc1,.slice lo1 m1 lc1] #[.bool true,.slice (some ⟨b2,o2,none⟩) n1 sc2,.slice lo2 m1 lc2] ((Zam es a.stk b.stk).take k) [] sv (.slice none 0 0) w2:=by (repeat (first|(with_reducible assumption)|(with_reducible refine ZdV ?_)|(with_reducible (apply Zco;assumption))|(with_reducible refine Zc7 _ ?_)))
     have htk:(Zam es a.stk b.stk).take k++[j]=(Zam es a.stk b.stk).take (k+1):=by rw [YaI,HJK.o];rfl
     have hlk:((Zam es a.stk b.stk).take k).length=k:=by rw [Yaz,HL1.o,Ya4 hk]
     have HN1:=Hd (ZnA HJK.o HNN.o HJ0.o);obtain ⟨v2,w5,hr5,⟨ao2,ac2,rfl⟩,c7,f7,m7⟩:=m2.app1 j (by rw [hlk];omega) 22;rw [htk] at m7;rw [hlk] at hr5 m7;obtain ⟨so,sc,hsv⟩:=m2.k1.shape;rw [hlk] at hsv;subst hsv;have c8:=m2.x3.cell 1 rfl;have HR5:=Hd hr5;have M7:=Hd m7;clear m2 m7 m0 hb2 g1 g2 g3 g4 HJS HJX HM HNN hr5 htk hlk
     go_wp2_with (at_builtin;(refine Zap rfl _ _ 22 rfl _ _ (.slice ao2 (k+1) ac2) w5 rfl rfl HR5.o ?_))
     go_wp2
     go_roundw
     case rel=>exact ⟨k+1,_,by omega,by go_num,HN1.o,M7.o⟩
     case measure=>simp [intOf];omega
  ·obtain rfl:n1=k:=by omega
   have hta:(Zam es a.stk b.stk).take n1=Zam es a.stk b.stk:=Yay (by rw [HL1.o];exact Yac _);have hRE:R=(⟨true,Zam es a.stk b.stk,Zam es a.loc b.loc⟩,0):=by
    have h:=HNN.o;rw [hta] at h;rw [HR0.o,h,Yaq (by decide)]
   have HRE:=Hd hRE;rw [hta] at HM;obtain ⟨so,sc,hsv⟩:=HM.o.k1.shape;rw [HL1.o] at hsv;subst hsv;clear hta hRE HR0 HNN E1 E2 N1 N2;obtain ⟨w6,hw6⟩:∃ w6,w6=wr:=⟨_,rfl⟩
   rw [←hw6] at HM c1 ⊢;clear hw6
   go_upto_region 15 with fail
   clear c1;go_wp2
   go_loopw [11] (fun v11 wr=>∃ (k:Nat) (lv:Value),k<=m1/\v11=.int .i64 k/\MX w (w.heap.size+1+1) O #[.bool true,.slice so1 n1 sc1,.slice lo1 m1 lc1] #[.bool true,.slice so2 n1 sc2,.slice lo2 m1 lc2] (Zam es a.stk b.stk) ((Zam es a.loc b.loc).take k) (.slice so n1 sc) lv wr) (fun v11 _=>m1 - (intOf v11).toNat)
   case atStart=>exact ⟨0,_,Yai _,rfl,by rw [YbM];exact HM.o⟩
   case round=>
    obtain ⟨k,lv,hk,rfl,hmx⟩:=hrel;have HM9:=HM;clear HM;have HM:=Hd hmx;clear hmx HM9;have c1:=HM.o.x1.cell 2 rfl;by_cases hlt:k<m1
    ·obtain ⟨x,hx⟩:∃ x,a.loc[k]? = some x:=⟨_,Yaa (by rw [←M1.o];exact hlt)⟩
     obtain ⟨y,hy⟩:∃ y,b.loc[k]? = some y:=⟨_,Yaa (by rw [←M2.o];exact hlt)⟩
     obtain ⟨b1,o1,u1,rfl,hu1,_,hc1⟩:=E3.o k x hx;obtain ⟨b2,o2,u2,rfl,hu2,_,hc2⟩:=E4.o k y hy;obtain rfl:=hu1;obtain rfl:=hu2;have hlk:((Zam es a.loc b.loc).take k).length=k:=by rw [Yaz,HL2.o,Ya4 hk]
     obtain ⟨lo,lc,hlv⟩:=HM.o.k2.shape;rw [hlk] at hlv;subst hlv;have HGX:Hid (∀ W,MX w (w.heap.size+1+1) O #[.bool true,.slice so1 n1 sc1,.slice (some ⟨b1,o1,none⟩) m1 lc1] #[.bool true,.slice so2 n1 sc2,.slice (some ⟨b2,o2,none⟩) m1 lc2] (Zam es a.stk b.stk) ((Zam es a.loc b.loc).take k) (.slice so n1 sc) (.slice lo k lc) W->W.cell? ⟨w.heap.size,2,none⟩=some (.slice (some ⟨b1,o1,none⟩) m1 lc1)/\W.cell? ⟨w.heap.size+1,2,none⟩=some (.slice (some ⟨b2,o2,none⟩) m1 lc2)/\W.cell? ⟨b1,o1+k,none⟩=some (.string (S x))/\W.cell? ⟨b2,o2+k,none⟩=some (.string (S y))/\W.cell? ⟨O,2,none⟩=some (.slice lo k lc)):=Hd (fun W h=>by
      have hoW:=Yaf (S:=fun _=>False) h.bel;exact ⟨h.x1.cell 2 rfl,h.x2.cell 2 rfl,
       hoW.cell (a:=⟨b1,o1+k,none⟩) (by have p:=hc1 0 _ rfl;rw [YaC] at p;exact p) id,
       hoW.cell (a:=⟨b2,o2+k,none⟩) (by have p:=hc2 0 _ rfl;rw [YaC] at p;exact p) id,h.x3.cell 2 rfl⟩)
     have HCX:Hid (∀ W,MX w (w.heap.size+1+1) O #[.bool true,.slice so1 n1 sc1,.slice (some ⟨b1,o1,none⟩) m1 lc1] #[.bool true,.slice so2 n1 sc2,.slice (some ⟨b2,o2,none⟩) m1 lc2] (Zam es a.stk b.stk) ((Zam es a.loc b.loc).take k) (.slice so n1 sc) (.slice lo k lc) W->Calls Tryz.prog 31 #[tv,.string (S x),.string (S y)] W (fun e w'=>∃ u,e=.returned u/\(u=.string (S (Za7 es x y))/\MX w (w.heap.size+1+1) O #[.bool true,.slice so1 n1 sc1,.slice (some ⟨b1,o1,none⟩) m1 lc1] #[.bool true,.slice so2 n1 sc2,.slice (some ⟨b2,o2,none⟩) m1 lc2] (Zam es a.stk b.stk) ((Zam es a.loc b.loc).take k) (.slice so n1 sc) (.slice lo k lc) w'))):=Hd (fun W hW=>(HJN.o W x y hW.bel (HA.o.k2 x (Yad hx)) (HB.o.k2 y (Yad hy))).mono (fun e w' ⟨h1,h2⟩=>⟨_,h1,rfl,Zco h2 hW⟩));have HJK:Hid ((Zam es a.loc b.loc)[k]? = some (Za7 es x y)):=Hd (ZgZ hx hy);generalize Za7 es x y=j at HCX HJK;have HAP:Hid (∀ W ty,MX w (w.heap.size+1+1) O #[.bool true,.slice so1 n1 sc1,.slice (some ⟨b1,o1,none⟩) m1 lc1] #[.bool true,.slice so2 n1 sc2,.slice (some ⟨b2,o2,none⟩) m1 lc2] (Zam es a.stk b.stk) ((Zam es a.loc b.loc).take k) (.slice so n1 sc) (.slice lo k lc) W->∃ v' w',(Builtin.append_ #[22,22] ty #[.slice lo k lc,.slice (some ⟨W.heap.size,0,none⟩) 1 1]).run Tryz.prog (W.alloc (.cells #[.string (S j)] 9))=.ok v' w'/\(∃ ao c,v'=.slice ao (k+1) c)/\w'.cell? ⟨O,2,none⟩=some (.slice lo k lc)/\w'.frozen? ⟨O,2,none⟩=false/\MX w (w.heap.size+1+1) O #[.bool true,.slice so1 n1 sc1,.slice (some ⟨b1,o1,none⟩) m1 lc1] #[.bool true,.slice so2 n1 sc2,.slice (some ⟨b2,o2,none⟩) m1 lc2] (Zam es a.stk b.stk) ((Zam es a.loc b.loc).take (k+1)) (.slice so n1 sc) v' (w'.setCell ⟨O,2,none⟩ v')):=Hd (fun W ty hW=>by
      have htk:(Zam es a.loc b.loc).take k++[j]=(Zam es a.loc b.loc).take (k+1):=by rw [YaI,HJK.o];rfl
      have h:=hW.app2 j (by rw [hlk];omega) ty;rw [htk,hlk] at h;exact h)
     have HE:Hid (∀ args w,(callFunc 31 args).run Tryz.prog w=.ok (.enter 31 args) w):=Hd (Zah Tryz.func31 (by kernel_rfl) rfl);have hk0:(0:Int)<=(k:Int):=by omega
     have hkn:(k:Int)<(m1:Int):=by omega
     have fx0:=ZdV HM.o;clear hc1 hc2 hx hy hlk HJN HMB HA HB
     go_upto_region 18 with fail
     clear c1;obtain ⟨g1,g2,g3,g4,g5⟩:=HGX.o _ fx0
     (go_region_law (first
       | (refine Zis (by rfl) 31 #[.tmp 75,.tmp 80,.tmp 85] #[26,9,9] (by rfl) #[tv,.string (S x),.string (S y)] (by rfl) (HE.o _ _) (HCX.o _ ?_) ?_;(focus ((repeat (first|(with_reducible assumption)|(with_reducible refine ZdV ?_)|(with_reducible (apply Zco;assumption))|(with_reducible refine Zc7 _ ?_)));done));rintro u1 wx1 ⟨rfl,fx1⟩;obtain ⟨g6,g7,g8,g9,g10⟩:=HGX.o _ fx1;obtain ⟨p1,p2,p3,p4,p5⟩:=HGX.o _ (Zc7 (.cells #[.string (S j)] 9) fx1))
       | (obtain ⟨v2,w2,hr2,⟨ao2,ac2,rfl⟩,c7,f7,m7⟩:=HAP.o wx1 22 fx1;refine ZaZ (by rfl) _ _ 22 (by rfl) _ _ _ w2 (by rfl) (by rfl) hr2 ?_)))
     all_goals
      have M7:=Hd m7;clear m7 hr2 fx0 fx1 g1 g2 g3 g4 g5 g6 g7 g8 g9 g10 p1 p2 p3 p4 p5 c7 f7 HGX HCX HAP HE HM;go_wp2
      go_roundw
      case rel=>exact ⟨k+1,_,by omega,by go_num,M7.o⟩
      case measure=>simp [intOf];omega
    ·obtain rfl:m1=k:=by omega
     have hta:(Zam es a.loc b.loc).take m1=Zam es a.loc b.loc:=Yay (by rw [HL2.o];exact Yac _);rw [hta] at HM;obtain ⟨lo,lc,hlv⟩:=HM.o.k2.shape;rw [HL2.o] at hlv;subst hlv;have XR6:=Hd HM.o.x4;have HB6:=Hd HM.o.bel;have d0:=HM.o.x3.cell 0 rfl;have d1:=HM.o.x3.cell 1 rfl;have d2:=HM.o.x3.cell 2 rfl;have HKS:=Hd HM.o.k1;have HKL:=Hd HM.o.k2;have HRO:=Hd HM.o.hO;clear hta HM HJN HMB E3 E4 HA HB;obtain ⟨w7,hw7⟩:∃ w7,w7=wr:=⟨_,rfl⟩
     rw [←hw7] at XR6 HB6 d0 d1 d2 HKS HKL c1 ⊢;clear hw7;have hzR:=XR6.o.lt;have ho9:Only (fun i=>i=w.heap.size+1+1) w7 (((w7.setCell ⟨w.heap.size+1+1,0,none⟩ (.bool true)).setCell ⟨w.heap.size+1+1,1,none⟩ (.slice so n1 sc)).setCell ⟨w.heap.size+1+1,2,none⟩ (.slice lo m1 lc)):=(((Yam (fun i=>i=w.heap.size+1+1) w7).setCell (p:=⟨w.heap.size+1+1,0,none⟩) rfl _).setCell (p:=⟨w.heap.size+1+1,1,none⟩) rfl _).setCell (p:=⟨w.heap.size+1+1,2,none⟩) rfl _;have l:=ZaA (P:=Tryz.prog) (cs:=#[(.bool true),(.slice so n1 sc),(.slice lo m1 lc)]) (((XR6.o.set 0 (.bool true)).set 1 (.slice so n1 sc)).set 2 (.slice lo m1 lc)) Tryz.underlying24 rfl Za2;have hb9:=HB6.o.trans (ho9.below HB6.o.size (fun i e=>by rw [e];omega));have HDG:Hid (∃ z,(Ending.returned (.tuple #[.agg #[(.bool true),(.slice so n1 sc),(.slice lo m1 lc)],.int .i64 0]))=.returned (.tuple #[z,.int .i64 (R.2:Nat)])/\ShpR Anyw (((w7.setCell ⟨w.heap.size+1+1,0,none⟩ (.bool true)).setCell ⟨w.heap.size+1+1,1,none⟩ (.slice so n1 sc)).setCell ⟨w.heap.size+1+1,2,none⟩ (.slice lo m1 lc)) R.1 z/\Below w.heap.size w (((w7.setCell ⟨w.heap.size+1+1,0,none⟩ (.bool true)).setCell ⟨w.heap.size+1+1,1,none⟩ (.slice so n1 sc)).setCell ⟨w.heap.size+1+1,2,none⟩ (.slice lo m1 lc))):=Hd (by
      rw [HRE.o];exact ⟨_,rfl,⟨_,_,rfl,StrR.st.any ((HKS.o.keep ho9 (fun g hg e=>by have h1:=(HKS.o.own g hg).1;have h2:=HRO.o;omega)).src ZbC),StrR.st.any ((HKL.o.keep ho9 (fun g hg e=>by have h1:=(HKL.o.own g hg).1;have h2:=HRO.o;omega)).src ZbC)⟩,hb9⟩)
     clear hb9 ho9 hzR;have r0:=XR6.o.cell 0 rfl;have r1:=XR6.o.cell 1 rfl;have r2:=XR6.o.cell 2 rfl;have z0:=XR6.o.free 0;have z1:=XR6.o.free 1;have z2:=XR6.o.free 2;go_wp2;refine bodyPost_ret (v:=.tuple #[.agg #[(.bool true),(.slice so n1 sc),(.slice lo m1 lc)],.int .i64 0]) ?_ rfl HDG.o;simp only [results,Tryz.results14];simp [asAddr,l]
theorem Znr {es:List Ent} {a b:Shp} (f1:a.Few) (f2:b.Few):(ZaR es a b).1.Fit:=by
 have z:Shp.zero.Fit:=⟨by decide,by decide⟩;unfold ZaR;split
 ·exact f2.fit
 ·split
  ·exact f1.fit
  ·split
   ·split
    ·exact z
    ·exact ⟨Yan (joins_le _ _ _) f1.fit.1,Yan (joins_le _ _ _) f1.fit.2⟩
   ·exact z
theorem Zf8 (a b:Shp) (u v:Value) (w:World) (ha:ShpR Anyw w a u) (hb:ShpR Anyw w b v) (hfa:a.Fit) (hfb:b.Fit) (hT:HT6 w) :
  Calls Tryz.prog 3 #[u,v] w (Said true w):=by
 have HTB:Hid (∀ W,Below w.heap.size w W->Calls Tryz.prog 10 #[] W (Zdv W)):=Hd (fun W hW=>ZdH W (hT.ft.keep hW) (hT.ct.keep hW));have HA:Hid (∀ W,Below w.heap.size w W->Calls Tryz.prog 11 #[] W (Said true W)):=Hd (fun W hW=>ZeJ W (hT.ft.keep hW) (hT.ct.keep hW));have HF1:Hid (∀ W,Below w.heap.size w W->Calls Tryz.prog 12 #[u] W (Zeg a W)):=Hd (fun W hW=>Zeo a u W (ShpR.below ha hW) hfa);have HF2:Hid (∀ W,Below w.heap.size w W->Calls Tryz.prog 12 #[v] W (Zeg b W)):=Hd (fun W hW=>Zeo b v W (ShpR.below hb hW) hfb);have HMG:Hid (∀ (T mb:Nat) (B:Nat->Nat) (A:Nat->Prop) (W0 W:World),NewOk cls7->Tab A W0 T mb B (newT cls7)->Below W0.heap.size W0 W->Below w.heap.size w W->a.Few->b.Few->Calls Tryz.prog 13 #[.pointer (some ⟨T,0,none⟩),u,v] W (DoG (ZaR (newT cls7) a b) W)):=
  Hd (fun T mb B A W0 W ok ht h1 h2 f1 f2=>Zcm ht ok.shape a b u v W h1 (ShpR.below ha h2) (ShpR.below hb h2) f1.small f2.small)
 have HRM:Hid (∀ (tv:Value) (W:World),NewOk cls7->Src 8 ClsR Anyw W tv (allR cls7)->Below w.heap.size w W->a.Few->b.Few->Calls Tryz.prog 14 #[tv,u,v] W (DoG (ZaR (newT cls7) a b) W)):=
  Hd (fun tv W ok ht h2 f1 f2=>Zjq cls7 ok.lined ok.wise tv a b u v W ht (ShpR.below ha h2) (ShpR.below hb h2) f1.small f2.small)
 have HQ1:Hid (∀ W,Below w.heap.size w W->Calls Tryz.prog 16 #[u,v] W (Said (a.eqB b) W)):=Hd (fun W hW=>ZfZ a b u v W (ShpR.below ha hW) (ShpR.below hb hW) hfa hfb);have HQ2:Hid (∀ W,Below w.heap.size w W->Calls Tryz.prog 15 #[u,v] W (Said (a.eqB b) W)):=Hd (fun W hW=>Zdu a b u v W (ShpR.below ha hW) (ShpR.below hb hW) hfa hfb);have HMF:Hid (a.Few->b.Few->(ZaR (newT cls7) a b).1.Fit):=Hd (fun f1 f2=>Znr f1 f2);obtain ⟨R,hR⟩:∃ R,R=ZaR (newT cls7) a b:=⟨_,rfl⟩
 rw [←hR] at HMG HRM HMF;clear hR;obtain ⟨qe,hqe⟩:∃ q,q=a.eqB b:=⟨_,rfl⟩
 rw [←hqe] at HQ1 HQ2;clear hqe;obtain ⟨so1,sc1,lo1,lc1,rfl⟩:=ha.shape;obtain ⟨so2,sc2,lo2,lc2,rfl⟩:=hb.shape;generalize a.seen=s1 at *;generalize b.seen=s2 at *;generalize a.stk.length=n1 at *;generalize b.stk.length=n2 at *;generalize a.loc.length=m1 at *;generalize b.loc.length=m2 at *;unfold Said at HA HQ1 HQ2;unfold Zdv at HTB;unfold Zeg at HF1 HF2;unfold DoG at HMG HRM;unfold Said;have HX1:=Hd ((Box.new w #[.bool s1,.slice so1 n1 sc1,.slice lo1 m1 lc1] 24).below (Zaa (Yab _ _) (.cells #[.bool s2,.slice so2 n2 sc2,.slice lo2 m2 lc2] 24)));have hx2:=Box.new (w.alloc (.cells #[.bool s1,.slice so1 n1 sc1,.slice lo1 m1 lc1] 24)) #[.bool s2,.slice so2 n2 sc2,.slice lo2 m2 lc2] 24;rw [show (w.alloc (.cells #[.bool s1,.slice so1 n1 sc1,.slice lo1 m1 lc1] 24)).heap.size=w.heap.size+1 by simp] at hx2;have HX2:=Hd hx2;have HB0:Hid (Below w.heap.size w ((w.alloc (.cells #[.bool s1,.slice so1 n1 sc1,.slice lo1 m1 lc1] 24)).alloc (.cells #[.bool s2,.slice so2 n2 sc2,.slice lo2 m2 lc2] 24))):=Hd (Zaa (Zaa (Yab _ _) _) _);clear ha hb hfa hfb hT hx2;go_enter Tryz.func3,Tryz.ntmps3
 go_wp2_with fail
 with_reducible refine (HTB.o _ HB0.o).mono ?_
 rintro e w1 ⟨ok,T,mb,B,A,tv,rfl,ht,hts,hb1⟩;have HT:=Hd ht;have HTS:=Hd hts;have OK:=Hd ok;have HB1:=Hd (HB0.o.trans (hb1.mono HB0.o.size));have HX11:=Hd (HX1.o.below hb1);have HX21:=Hd (HX2.o.below hb1);clear ht hts ok hb1 HX1 HX2
 go_wp2_with fail
 with_reducible refine (HA.o _ HB1.o).mono ?_
 rintro e w2 ⟨rfl,hb2⟩;have x0:=(HX11.o.below hb2).cell 0 rfl;have x1:=(HX11.o.below hb2).cell 1 rfl;have x2:=(HX11.o.below hb2).cell 2 rfl;have HB2:=Hd (HB1.o.trans (hb2.mono HB1.o.size));have HX12:=Hd (HX11.o.below hb2);have HX22:=Hd (HX21.o.below hb2);have HT2:=Hd hb2;clear hb2 HX11 HX21
 go_wp2_with fail
 with_reducible refine (HF1.o _ HB2.o).mono ?_
 rintro e w3 ⟨b1,rfl,hfew1,hb3⟩;have y0:=(HX22.o.below hb3).cell 0 rfl;have y1:=(HX22.o.below hb3).cell 1 rfl;have y2:=(HX22.o.below hb3).cell 2 rfl;have HB3:=Hd (HB2.o.trans (hb3.mono HB2.o.size));have HX13:=Hd (HX12.o.below hb3);have HX23:=Hd (HX22.o.below hb3);have HT3:=Hd (HT2.o.trans (hb3.mono HT2.o.size));have HFew1:=Hd hfew1;clear hb3 hfew1 HX12 HX22 HT2 x0 x1 x2;cases b1
 ·go_wp2_with fail
  with_reducible refine (HA.o _ HB3.o).mono ?_
  rintro e w4 ⟨rfl,hb4⟩;have HB4:=Hd (HB3.o.trans (hb4.mono HB3.o.size));clear hb4;go_wp2;go_ret;exact ⟨rfl,HB4.o⟩
 go_wp2_with fail
 with_reducible refine (HF2.o _ HB3.o).mono ?_
 rintro e w4 ⟨b2,rfl,hfew2,hb4⟩;have HB4:=Hd (HB3.o.trans (hb4.mono HB3.o.size));have HX14:=Hd (HX13.o.below hb4);have HX24:=Hd (HX23.o.below hb4);have HT4:=Hd (HT3.o.trans (hb4.mono HT3.o.size));have HFew2:=Hd hfew2;clear hb4 hfew2 HX13 HX23 HT3 y0 y1 y2;cases b2
 ·go_wp2_with fail
  with_reducible refine (HA.o _ HB4.o).mono ?_
  rintro e w5 ⟨rfl,hb5⟩;have HB5:=Hd (HB4.o.trans (hb5.mono HB4.o.size));clear hb5;go_wp2;go_ret;exact ⟨rfl,HB5.o⟩
 have F1:=Hd (HFew1.o (by simp));have F2:=Hd (HFew2.o (by simp));clear HFew1 HFew2 HF1 HF2 HA HTB;have HMG2:=Hd (fun W h1 h2=>HMG.o T mb B A w1 W OK.o HT.o h1 h2 F1.o F2.o);have HRM2:=Hd (fun W (h1:Below w1.heap.size w1 W) h2=>HRM.o tv W OK.o (ClsR.st.below HTS.o h1) h2 F1.o F2.o);have HFIT:=Hd (HMF.o F1.o F2.o);clear HMG HRM HMF OK HT HTS F1 F2;obtain ⟨x0,x1,x2⟩:_/\_/\_:=⟨HX14.o.cell 0 rfl,HX14.o.cell 1 rfl,HX14.o.cell 2 rfl⟩;obtain ⟨y0,y1,y2⟩:_/\_/\_:=⟨HX24.o.cell 0 rfl,HX24.o.cell 1 rfl,HX24.o.cell 2 rfl⟩
 go_wp2_with fail
 with_reducible refine (HMG2.o _ HT4.o HB4.o).mono ?_
 rintro e w5 ⟨vc,rfl,hrc,hb5⟩;obtain ⟨co,cc,do_,dc,rfl⟩:=hrc.shape;have hq:=Zaa (Yab w5.heap.size w5) (.cells #[.bool R.1.seen,.slice co R.1.stk.length cc,.slice do_ R.1.loc.length dc] 24);have hbq:=hb5.trans (hq.mono hb5.size);have RC:=Hd (ShpR.below hrc hq);have XC:=Hd (Box.new w5 #[.bool R.1.seen,.slice co R.1.stk.length cc,.slice do_ R.1.loc.length dc] 24);have HB5:=Hd (HB4.o.trans (hbq.mono HB4.o.size));have HT5:=Hd (HT4.o.trans (hbq.mono HT4.o.size));have HX15:=Hd (HX14.o.below hbq);have HX25:=Hd (HX24.o.below hbq);clear hrc hb5 hq hbq HX14 HX24 HB4 HT4 x0 x1 x2 y0 y1 y2 HMG2;obtain ⟨x0,x1,x2⟩:_/\_/\_:=⟨HX15.o.cell 0 rfl,HX15.o.cell 1 rfl,HX15.o.cell 2 rfl⟩;obtain ⟨y0,y1,y2⟩:_/\_/\_:=⟨HX25.o.cell 0 rfl,HX25.o.cell 1 rfl,HX25.o.cell 2 rfl⟩
 go_wp2_with fail
 with_reducible refine (HRM2.o _ HT5.o HB5.o).mono ?_
 rintro e w6 ⟨vd,rfl,hrd,hb6⟩;obtain ⟨eo,ec,fo,fc,rfl⟩:=hrd.shape;have hq:=Zaa (Yab w6.heap.size w6) (.cells #[.bool R.1.seen,.slice eo R.1.stk.length ec,.slice fo R.1.loc.length fc] 24);have hbq:=hb6.trans (hq.mono hb6.size);have RC6:=Hd (ShpR.below RC.o hbq);have XC6:=Hd (XC.o.below hbq);have RD:=Hd (ShpR.below hrd hq);have XD:=Hd (Box.new w6 #[.bool R.1.seen,.slice eo R.1.stk.length ec,.slice fo R.1.loc.length fc] 24);have HB6:=Hd (HB5.o.trans (hbq.mono HB5.o.size));have HX16:=Hd (HX15.o.below hbq);have HX26:=Hd (HX25.o.below hbq);clear hrd hb6 hq hbq RC XC HX15 HX25 HB5 HT5 x0 x1 x2 y0 y1 y2 HRM2;have HSM:Hid (∀ W u v,ShpR Anyw W R.1 u->ShpR Anyw W R.1 v->Calls Tryz.prog 15 #[u,v] W (fun e w'=>e=.returned (.bool true)/\Below W.heap.size W w')):=Hd (fun W u v hu hv=>by
  have h:=Zdu R.1 R.1 u v W hu hv HFIT.o HFIT.o;rw [Shp.eq_refl] at h;exact h)
 obtain ⟨QS,RE⟩:=R;simp only at HSM RC6 XC6 RD XD HX16 HX26 HB6 HFIT ⊢;generalize QS.seen=rs at *;generalize QS.stk.length=rn at *;generalize QS.loc.length=rm at *
 go_upto_region 6 with fail
 obtain ⟨W6,hW6⟩:∃ W,W=w6.alloc (.cells #[.bool rs,.slice eo rn ec,.slice fo rm fc] 24):=⟨_,rfl⟩
 rw [←hW6] at RC6 XC6 RD XD HB6 HX16 HX26 ⊢;clear hW6;obtain ⟨D,hD⟩:∃ D,D=w6.heap.size:=⟨_,rfl⟩
 rw [←hD] at XD ⊢;obtain ⟨C,hC⟩:∃ D,D=w5.heap.size:=⟨_,rfl⟩
 rw [←hC] at XC6 ⊢;clear hC hD;have BW:=Hd (fun W (h:Below W6.heap.size W6 W)=>HB6.o.trans (h.mono HB6.o.size));have K1:Hid (∀ W,Below W6.heap.size W6 W->Calls Tryz.prog 15 #[.agg #[.bool rs,.slice co rn cc,.slice do_ rm dc],.agg #[.bool rs,.slice eo rn ec,.slice fo rm fc]] W (fun e w'=>e=.returned (.bool true)/\Below W.heap.size W w')):=Hd (fun W h=>HSM.o W _ _ (ShpR.below RC6.o h) (ShpR.below RD.o h));have K2:Hid (∀ W,Below W6.heap.size W6 W->Calls Tryz.prog 16 #[.agg #[.bool s1,.slice so1 n1 sc1,.slice lo1 m1 lc1],.agg #[.bool s2,.slice so2 n2 sc2,.slice lo2 m2 lc2]] W (fun e w'=>e=.returned (.bool qe)/\Below W.heap.size W w')):=Hd (fun W h=>HQ1.o W (BW.o W h));have K3:Hid (∀ W,Below W6.heap.size W6 W->Calls Tryz.prog 15 #[.agg #[.bool s1,.slice so1 n1 sc1,.slice lo1 m1 lc1],.agg #[.bool s2,.slice so2 n2 sc2,.slice lo2 m2 lc2]] W (fun e w'=>e=.returned (.bool qe)/\Below W.heap.size W w')):=Hd (fun W h=>HQ2.o W (BW.o W h));have HC:Hid (∀ W,Below W6.heap.size W6 W->(W.cell? ⟨C,0,none⟩=some (.bool rs)/\W.cell? ⟨C,1,none⟩=some (.slice co rn cc)/\W.cell? ⟨C,2,none⟩=some (.slice do_ rm dc)/\W.cell? ⟨D,0,none⟩=some (.bool rs)/\W.cell? ⟨D,1,none⟩=some (.slice eo rn ec)/\W.cell? ⟨D,2,none⟩=some (.slice fo rm fc)/\W.cell? ⟨w.heap.size,0,none⟩=some (.bool s1)/\W.cell? ⟨w.heap.size,1,none⟩=some (.slice so1 n1 sc1)/\W.cell? ⟨w.heap.size,2,none⟩=some (.slice lo1 m1 lc1)/\W.cell? ⟨w.heap.size+1,0,none⟩=some (.bool s2)/\W.cell? ⟨w.heap.size+1,1,none⟩=some (.slice so2 n2 sc2)/\W.cell? ⟨w.heap.size+1,2,none⟩=some (.slice lo2 m2 lc2))):=Hd (fun W h=>
  ⟨(XC6.o.below h).cell 0 rfl,(XC6.o.below h).cell 1 rfl,(XC6.o.below h).cell 2 rfl,(XD.o.below h).cell 0 rfl,(XD.o.below h).cell 1 rfl,(XD.o.below h).cell 2 rfl,(HX16.o.below h).cell 0 rfl,(HX16.o.below h).cell 1 rfl,(HX16.o.below h).cell 2 rfl,(HX26.o.below h).cell 0 rfl,(HX26.o.below h).cell 1 rfl,(HX26.o.below h).cell 2 rfl⟩)
 have hz0:=Yab W6.heap.size W6;obtain ⟨g0,g1,g2,g3,g4,g5,g6,g7,g8,g9,g10,g11⟩:=HC.o W6 hz0;clear RC6 XC6 RD XD HX16 HX26 HB6 HSM HQ1 HQ2 HFIT;first
 | (go_region_held (fun W=>W.cell? ⟨C,0,none⟩=some (.bool rs)/\W.cell? ⟨C,1,none⟩=some (.slice co rn cc)/\W.cell? ⟨C,2,none⟩=some (.slice do_ rm dc)/\W.cell? ⟨D,0,none⟩=some (.bool rs)/\W.cell? ⟨D,1,none⟩=some (.slice eo rn ec)/\W.cell? ⟨D,2,none⟩=some (.slice fo rm fc)/\W.cell? ⟨w.heap.size,0,none⟩=some (.bool s1)/\W.cell? ⟨w.heap.size,1,none⟩=some (.slice so1 n1 sc1)/\W.cell? ⟨w.heap.size,2,none⟩=some (.slice lo1 m1 lc1)/\W.cell? ⟨w.heap.size+1,0,none⟩=some (.bool s2)/\W.cell? ⟨w.heap.size+1,1,none⟩=some (.slice so2 n2 sc2)/\W.cell? ⟨w.heap.size+1,2,none⟩=some (.slice lo2 m2 lc2)) ((refine HC.o _ ?_;(repeat (first|(with_reducible assumption)|(with_reducible exact Yab _ _)|(with_reducible refine bel_drew ?_)|(with_reducible (apply bel_after;assumption))))))
   (first
    | (go_at_call 16;(with_reducible refine (K2.o _ ?_).mono ?_);(focus ((repeat (first|(with_reducible assumption)|(with_reducible exact Yab _ _)|(with_reducible refine bel_drew ?_)|(with_reducible (apply bel_after;assumption))));done));rintro en v2 ⟨rfl,hv2⟩)
    | (go_at_call 15;(with_reducible refine (K1.o _ ?_).mono ?_);(focus ((repeat (first|(with_reducible assumption)|(with_reducible exact Yab _ _)|(with_reducible refine bel_drew ?_)|(with_reducible (apply bel_after;assumption))));done));rintro en v1 ⟨rfl,hv1⟩)
    | (go_at_call 15;(with_reducible refine (K3.o _ ?_).mono ?_);(focus ((repeat (first|(with_reducible assumption)|(with_reducible exact Yab _ _)|(with_reducible refine bel_drew ?_)|(with_reducible (apply bel_after;assumption))));done));rintro en v3 ⟨rfl,hv3⟩)))
 | fail
 all_goals
  have HBE:Hid (Below w.heap.size w v3):=Hd (BW.o _ (by (repeat (first|(with_reducible assumption)|(with_reducible exact Yab _ _)|(with_reducible refine bel_drew ?_)|(with_reducible (apply bel_after;assumption))))));clear hv1 hv2 hv3 g0 g1 g2 g3 g4 g5 g6 g7 g8 g9 g10 g11 hz0 K1 K2 K3 HC BW;cases qe
  all_goals
   go_wp2;go_ret;exact ⟨by simp,HBE.o⟩
theorem Zov (u:Value) (a:Shp) (v:Value) (b:Shp) (w:World) (hT:HT6 w) (ha:ShpR Anyw w a u) (hra:a.real) (hb:ShpR Anyw w b v) (hrb:b.real) :
  Calls Tryz.prog 3 #[u,v] w (Said true w):=
 Zf8 a b u v w ha hb hra.2.2 hrb.2.2 hT
