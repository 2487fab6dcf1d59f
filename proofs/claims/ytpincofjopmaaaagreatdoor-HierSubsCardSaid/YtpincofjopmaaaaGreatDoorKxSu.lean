/-
  Texts HLe, HRefP, HRef2, HSubsL, HLawsS: laws that the claims lean on.
  Conditions: as each law says.
-/
import Derived.Test.YtpincofjopmaaaaGreatDoorK68
set_option maxRecDepth 100000
set_option maxHeartbeats 16000000
namespace Go.Proofs.YtpincofjopmaaaaGreatDoor
open Go.RowKit
theorem class_dep {n:List UInt8} (h:classB n=true):depN n=0:=by
 unfold depN;split
 ·exact base_deep (classB_name h)
 ·rfl
theorem class_plain {n:List UInt8} (h:classB n=true):plainB n=false:=by
 cases hp:plainB n with
 | false=>rfl
 | true=>rw [plainB_class hp] at h;cases h
theorem null_plain:plainB nullL=false:=by decide
theorem Wise.at {es:List Ent} (W:Wise es) {i:Nat} (hi:i<es.length):placeE es (nmE es i)=some i/\classB (nmE es i)=true:=by
 have he:=List.getElem?_eq_getElem hi;rw [nmE_eq he];exact ⟨W.uq i _ he,W.cl i _ he⟩
theorem Wise.nm0 {es:List Ent} (W:Wise es):nmE es 0=objL:=nmE_eq W.obj
theorem Wise.kind_class {es:List Ent} (W:Wise es) {n:List UInt8} {i:Nat} (h:placeE es n=some i):kindE es n=true:=by
 obtain ⟨_,_,_,_,hc,_⟩:=W.place h;unfold kindE declE;rw [topL_zero (class_dep hc),h];simp
theorem Wise.any_above {es:List Ent} (W:Wise es) {a b:List UInt8} (h:(aboveE es (placeE es a)).any (fun x=>some x == placeE es b)=true):∃ i j,placeE es a=some i/\placeE es b=some j/\Up es i j:=by
 obtain ⟨x,hx,he⟩:=List.any_eq_true.1 h;have hb:placeE es b=some x:=(eq_of_beq he).symm;cases ha:placeE es a with
 | none=>
  rw [ha] at hx;unfold aboveE at hx;rw [lineE_none] at hx;cases hx
 | some i=>
  rw [ha] at hx;exact ⟨i,x,rfl,hb,(W.above_iff (placeE_lt ha) x).1 hx⟩
inductive SubC (es:List Ent):List UInt8->List UInt8->Prop
 | same (a:List UInt8):SubC es a a
 | null (b:List UInt8):b ≠ nullL->plainB b=false->SubC es nullL b
 | arr (a:List UInt8):a ≠ nullL->0<depN a->SubC es a objL
 | cls (a b:List UInt8) (i j:Nat):placeE es a=some i->placeE es b=some j->Up es i j->SubC es a b
theorem Wise.sub_case {es:List Ent} (W:Wise es) {a b:List UInt8}:subE es a b=true↔kindE es a=true/\kindE es b=true/\SubC es a b:=by
 unfold subE;simp only [Bool.and_eq_true,Bool.or_eq_true];constructor
 ·rintro ⟨h1,h2,h3⟩;refine ⟨h1,h2,?_⟩;by_cases hab:a=b
  ·rw [hab];exact .same b
  ·rcases h3 with h3|h3
   ·exact absurd (eq_of_beq h3) hab
   ·by_cases hn:a=nullL
    ·rw [if_pos (by rw [hn];exact beq_self_eq_true _)] at h3;subst hn;exact .null b (fun e=>hab e.symm) (by simpa using h3)
    ·rw [if_neg (by simpa using hn)] at h3;split at h3
     ·rename_i hd
      obtain rfl:=eq_of_beq h3;exact .arr a hn hd
     ·obtain ⟨i,j,p,q,r⟩:=W.any_above h3;exact .cls a b i j p q r
 ·rintro ⟨h1,h2,h3⟩;refine ⟨h1,h2,?_⟩;cases h3 with
  | same=>exact .inl (beq_self_eq_true _)
  | null _ hn hp=>refine .inr ?_;rw [if_pos (beq_self_eq_true _),hp];rfl
  | arr _ hn hd=>refine .inr ?_;rw [if_neg (by simpa using hn),if_pos hd];exact beq_self_eq_true _
  | cls _ _ i j p q r=>
   refine .inr ?_;obtain ⟨hi,_,_,_,hc,_⟩:=W.place p;have hn:a ≠ nullL:=fun e=>by rw [e,null_class] at hc;cases hc
   rw [if_neg (by simpa using hn),if_neg (by rw [class_dep hc];omega),p];exact List.any_eq_true.2 ⟨j,(W.above_iff hi j).2 r,by rw [q];exact beq_self_eq_true _⟩
theorem Wise.up0 {es:List Ent} (W:Wise es) {i:Nat} (hi:i<es.length):Up es i 0:=W.line_up i hi 0 (W.zero_line hi)
theorem Wise.sub_self {es:List Ent} (W:Wise es) {a:List UInt8} (h:kindE es a=true):subE es a a=true:=W.sub_case.2 ⟨h,h,.same a⟩
theorem Wise.sub_kind {es:List Ent} (W:Wise es) {a b:List UInt8} (h:subE es a b=true):kindE es a=true/\kindE es b=true:=let ⟨h1,h2,_⟩:=W.sub_case.1 h;⟨h1,h2⟩
theorem Wise.s1 {es:List Ent} (_:Wise es) {a b:List UInt8} (h:kindE es a=false\/kindE es b=false\/a=b):subE es a b=(a == b && kindE es a):=by
 unfold subE;rcases h with h|h|h
 ·rw [h];simp
 ·rw [h];by_cases e:a=b
  ·rw [e,h];simp
  ·rw [show (a == b)=false from beq_eq_false_iff_ne.2 e];simp
 ·subst h;rw [beq_self_eq_true];cases kindE es a <;> rfl
theorem plain_dep {l:List UInt8} (h:plainB l=true):depN l=0:=by
 unfold depN;split
 ·exact base_deep (plainB_name h)
 ·rfl
theorem Wise.s2 {es:List Ent} (W:Wise es) {a b:List UInt8} (hab:a ≠ b) (h:plainB a=true\/plainB b=true\/b=nullL):subE es a b=false:=by
 refine not_true_false (fun hs=>?_);obtain ⟨_,_,hc⟩:=W.sub_case.1 hs;cases hc with
 | same=>exact hab rfl
 | null _ hn hp=>
  rcases h with h|h|h
  ·rw [null_plain] at h;cases h
  ·rw [hp] at h;cases h
  ·exact hn h
 | arr _ hn hd=>
  rcases h with h|h|h
  ·rw [plain_dep h] at hd;omega
  ·exact absurd h (by decide)
  ·exact absurd h (by decide)
 | cls _ _ i j p q r=>
  obtain ⟨_,_,_,_,h1,_⟩:=W.place p;obtain ⟨_,_,_,_,h2,_⟩:=W.place q;rcases h with h|h|h
  ·rw [class_plain h1] at h;cases h
  ·rw [class_plain h2] at h;cases h
  ·rw [h,null_class] at h2;cases h2
theorem Wise.kind_sort {es:List Ent} (W:Wise es) {a:List UInt8} (h:kindE es a=true):a=nullL\/plainB a=true\/(0<depN a/\declE es a=true/\placeE es a=none)\/∃ i,placeE es a=some i:=by
 by_cases hn:a=nullL
 ·exact .inl hn
 have hd:declE es a=true:=by
  unfold kindE at h;rw [show (a == nullL)=false from beq_eq_false_iff_ne.2 hn] at h
  simpa using h
 rcases Nat.eq_zero_or_pos (depN a) with h0|h0
 ·have hd2:=hd;unfold declE at hd2;rw [topL_zero h0,Bool.or_eq_true] at hd2;rcases hd2 with h1|h1
  ·exact .inr (.inl h1)
  ·exact .inr (.inr (.inr (Option.isSome_iff_exists.1 h1)))
 ·refine .inr (.inr (.inl ⟨h0,hd,?_⟩));cases hp:placeE es a with
  | none=>rfl
  | some i=>obtain ⟨_,_,_,_,h1,_⟩:=W.place hp;rw [class_dep h1] at h0;omega
theorem Wise.s3 {es:List Ent} (W:Wise es) {a b:List UInt8} (ha:kindE es a=true) (hb:kindE es b=true) (pa:plainB a=false) (pb:plainB b=false) (hbn:b ≠ nullL) (h:a=nullL\/b=objL):subE es a b=true:=by
 refine W.sub_case.2 ⟨ha,hb,?_⟩;by_cases hn:a=nullL
 ·rw [hn];exact .null b hbn pb
 ·rcases h with h|h
  ·exact absurd h hn
  ·subst h;rcases W.kind_sort ha with h|h|⟨h,_⟩|⟨i,hi⟩
   ·exact absurd h hn
   ·rw [pa] at h;cases h
   ·exact .arr a hn h
   ·exact .cls a objL i 0 hi W.objAt (W.up0 (placeE_lt hi))
theorem Wise.s4 {es:List Ent} (W:Wise es) {a b:List UInt8} (hab:a ≠ b) (ha:kindE es a=true) (hb:kindE es b=true) (han:a ≠ nullL) (hbo:b ≠ objL) :
  subE es a b=true↔∃ i j,placeE es a=some i/\placeE es b=some j/\Over es i j:=by
 rw [W.sub_case];constructor
 ·rintro ⟨_,_,hc⟩;cases hc with
  | same=>exact absurd rfl hab
  | null=>exact absurd rfl han
  | arr=>exact absurd rfl hbo
  | cls _ _ i j p q r=>
   rcases r.over with e|h
   ·subst e;obtain ⟨_,_,_,_,_,h1⟩:=W.place p;obtain ⟨_,_,_,_,_,h2⟩:=W.place q;exact absurd (h1.symm.trans h2) hab
   ·exact ⟨i,j,p,q,h⟩
 ·rintro ⟨i,j,p,q,r⟩;exact ⟨ha,hb,.cls a b i j p q r.up⟩
theorem Wise.joinR {es:List Ent} (W:Wise es) (a b:List UInt8) (hab:subE es a b=false) (hba:subE es b a=false) :
  joinE es a b=if (!kindE es a || !kindE es b || plainB a || plainB b)=true then [] else
   match (lineE es (placeE es a)).find? (fun x=>subE es b (nmE es x)) with|some x=>nmE es x|none=>objL:=by
 have hj:joinE es a b=match (lineE es (derE es a)).find? (fun x=>subE es b (nmE es x)) with|some x=>nmE es x|none=>[]:=by
  unfold joinE;rw [hab,hba];rfl
 rw [hj];have hnone:∀ o,((∀ x,x ∈ lineE es o->subE es b (nmE es x)=false))->(lineE es o).find? (fun x=>subE es b (nmE es x))=none:=fun o h=>by
  rw [List.find?_eq_none];intro x hx;rw [h x hx];decide
 by_cases hc:(!kindE es a || !kindE es b || plainB a || plainB b)=true
 ·rw [if_pos hc];simp only [Bool.or_eq_true,Bool.not_eq_true'] at hc;have:∀ x,x ∈ lineE es (derE es a)->subE es b (nmE es x)=false:=by
   intro x hx;refine not_true_false (fun hs=>?_);have hx2:x<es.length:=by
    obtain ⟨e,he⟩:=chain_mem (W.sh.line (derE es a) (fun i h=>derE_lt h)) x hx;exact (List.getElem?_eq_some_iff.1 he).1
   have hk:=W.sub_kind hs;rcases hc with ((hc|hc)|hc)|hc
   ·-- a is no kind: nothing is on its line
    unfold derE at hx;split at hx
    ·rename_i hd
     unfold kindE at hc;rw [hd.2] at hc;simp at hc
    ·cases hp:placeE es a with
     | none=>rw [hp,lineE_none] at hx;cases hx
     | some i=>rw [W.kind_class hp] at hc;cases hc
   ·rw [hk.1] at hc;cases hc
   ·unfold derE at hx;rw [plain_dep hc] at hx;rw [if_neg (by omega)] at hx;cases hp:placeE es a with
    | none=>rw [hp,lineE_none] at hx;cases hx
    | some i=>obtain ⟨_,_,_,_,h1,_⟩:=W.place hp;rw [class_plain h1] at hc;cases hc
   ·have hn:b ≠ nmE es x:=fun e=>by
     have:=(W.at hx2).2;rw [←e,] at this;rw [class_plain this] at hc;cases hc
    rw [W.s2 hn (.inl hc)] at hs;cases hs
  rw [hnone _ this]
 ·rw [if_neg hc];simp only [Bool.or_eq_true,Bool.not_eq_true',not_or,Bool.not_eq_true,Bool.not_eq_false] at hc;obtain ⟨⟨⟨ka,kb⟩,pa⟩,pb⟩:=hc;have hbo:subE es b objL=true:=by
   by_cases e:b=objL
   ·rw [e];exact W.sub_self (W.kind_class W.objAt)
   ·exact W.s3 kb (W.kind_class W.objAt) pb (by decide) (by decide) (.inr rfl)
  rcases W.kind_sort ka with h|h|⟨h,hd,hp⟩|⟨i,hi⟩
  ·-- null: below all
   exfalso
   subst h;by_cases e:b=nullL
   ·rw [e,W.sub_self ka] at hab;cases hab
   ·rw [W.s3 ka kb pa pb e (.inl rfl)] at hab;cases hab
  ·rw [pa] at h;cases h
  ·unfold derE;rw [if_pos ⟨h,hd⟩,hp,lineE_none,W.objAt,W.line W.obj,show (⟨objC,none,[]⟩:Ent).up=none from rfl,lineE_none,List.find?_cons,W.nm0,hbo];exact W.nm0
  ·obtain ⟨hl,_,_,_,hcl,_⟩:=W.place hi;have hder:derE es a=placeE es a:=by unfold derE;rw [class_dep hcl,if_neg (by omega)]
   rw [hder,hi];have:((lineE es (some i)).find? (fun x=>subE es b (nmE es x))).isSome=true:=List.find?_isSome.2 ⟨0,W.zero_line hl,by rw [W.nm0];exact hbo⟩;obtain ⟨x,hx⟩:=Option.isSome_iff_exists.1 this;rw [hx]
theorem rsub_any {A:Nat->Prop} (cs:List Cls) (hL:Lined cs) (W:Wise (newT cs)) (sv:Value) (a b:List UInt8) (w:World) (hs:Src 8 ClsR A w sv (allR cs)) (ha:a.length<=9223372036854775807) (hb:b.length<=9223372036854775807) :
  Calls Tryz.prog 31 #[sv,.string (S a),.string (S b)] w (Said (subE (newT cs) a b) w):=by
 have HKA:Hid (∀ V,Below w.heap.size w V->Calls Tryz.prog 33 #[sv,.string (S a)] V (fun e w'=>e=.returned (.bool (kindE (newT cs) a))/\Below V.heap.size V w')):=Hd (fun V hV=>rkind_any cs hL.len W sv a V (ClsR.st.below hs hV) ha);have HKB:Hid (∀ V,Below w.heap.size w V->Calls Tryz.prog 33 #[sv,.string (S b)] V (fun e w'=>e=.returned (.bool (kindE (newT cs) b))/\Below V.heap.size V w')):=Hd (fun V hV=>rkind_any cs hL.len W sv b V (ClsR.st.below hs hV) hb);have HPA:=Hd (fun V=>refplain_any a V);have HPB:=Hd (fun V=>refplain_any b V);have HFA:Hid (∀ V,Below w.heap.size w V->Calls Tryz.prog 67 #[sv,.string (S a)] V (fun e w'=>e=.returned (.int .i64 (idxV (placeE (newT cs) a)))/\Below V.heap.size V w')):=Hd (fun V hV=>rfindE_any cs hL.len sv a V (ClsR.st.below hs hV));have HFB:Hid (∀ V,Below w.heap.size w V->Calls Tryz.prog 67 #[sv,.string (S b)] V (fun e w'=>e=.returned (.int .i64 (idxV (placeE (newT cs) b)))/\Below V.heap.size V w')):=Hd (fun V hV=>rfindE_any cs hL.len sv b V (ClsR.st.below hs hV));have HBL:Hid (∀ V,Below w.heap.size w V->Calls Tryz.prog 69 #[sv] V (BelowG (allR cs) V)):=Hd (fun V hV=>rbelow_any (allR cs) sv V (ClsR.st.below hs hV) (by rw [allR_len];have:=hL.len;omega) hL.like_len);have H1:=Hd (fun h=>W.s1 (a:=a) (b:=b) h);have H2:=Hd (fun h1 h2=>W.s2 (a:=a) (b:=b) h1 h2);have H3:=Hd (fun h1 h2 h3 h4 h5 h6=>W.s3 (a:=a) (b:=b) h1 h2 h3 h4 h5 h6);have H4:Hid (∀ (M:Nat->Nat->Bool),(∀ x y,x<(allR cs).length->y<(allR cs).length->(M x y=true↔Plus (StepR (allR cs)) x y))->a ≠ b->kindE (newT cs) a=true->kindE (newT cs) b=true->a ≠ nullL->b ≠ objL->
   (∀ i j,placeE (newT cs) a=some i->placeE (newT cs) b=some j->i<(allR cs).length/\j<(allR cs).length/\subE (newT cs) a b=M i j)):=Hd (fun M hM h1 h2 h3 h4 h5=>by
  have h:=W.s4 h1 h2 h3 h4 h5;refine fun i j hi hj=>?_
  ·have hil:=placeE_lt hi;have hjl:=placeE_lt hj;have hel:(allR cs).length=(newT cs).length:=by rw [allR_len,newT_len]
   refine ⟨by rw [hel];exact hil,by rw [hel];exact hjl,?_⟩;rw [Bool.eq_iff_iff,h,hM i j (by rw [hel];exact hil) (by rw [hel];exact hjl),plus_over (fun i j=>hL.step i j)];constructor
   ·rintro ⟨i',j',p,q,r⟩;rw [hi] at p;rw [hj] at q;obtain rfl:=Option.some.inj p;obtain rfl:=Option.some.inj q;exact r
   ·intro r;exact ⟨i,j,hi,hj,r⟩)
 have H6:Hid (a ≠ b->kindE (newT cs) a=true->kindE (newT cs) b=true->a ≠ nullL->b ≠ objL->placeE (newT cs) a=none\/placeE (newT cs) b=none->subE (newT cs) a b=false):=Hd (fun h1 h2 h3 h4 h5 hn=>not_true_false (fun ht=>by
  obtain ⟨i,j,p,q,_⟩:=(W.s4 h1 h2 h3 h4 h5).1 ht;rcases hn with e|e
  ·rw [e] at p;cases p
  ·rw [e] at q;cases q))
 unfold BelowG at HBL;unfold nullL at H2 H3 H4 H6;unfold objL at H3 H4 H6;generalize hm:(allR cs).length=m at HBL H4;have e0:=S_toList a;have e1:=S_toList b;have B0:=Hd (Below.refl w.heap.size w);obtain ⟨so,sc,rfl⟩:=hs.shape;rw [hm] at HKA HKB HFA HFB HBL ⊢;clear hs ha hb W hL hm;generalize subE (newT cs) a b=r at H1 H2 H3 H4 H6 ⊢;generalize plainB a=pa at HPA H2 H3;generalize plainB b=pb at HPB H2 H3;generalize kindE (newT cs) a=ka at HKA H1 H3 H4 H6;generalize kindE (newT cs) b=kb at HKB H1 H3 H4 H6;generalize placeE (newT cs) a=oa at HFA H4 H6;generalize placeE (newT cs) b=ob at HFB H4 H6;by_cases hab:a=b
 ·have h0:(a == b)=true:=by rw [hab];exact beq_self_eq_true _
  have h1:decide (a=b)=true:=decide_eq_true hab;have HR:Hid (r=ka):=Hd (by rw [H1.out (.inr (.inr hab)),h0,Bool.true_and]);clear H1 H2 H3 H4 H6 HPA HPB HFA HFB HBL;subst hab;cases ka with
  | false=>
   clear HKB;go_enter Tryz.func31,Tryz.ntmps31
   go_wp2_with fail
   with_reducible refine (HKA.out w B0.out).mono ?_
   rintro e w1 ⟨rfl,hb⟩;have B1:=Hd (B0.out.trans (hb.mono B0.out.size));clear hb
   go_wp2_with fail
   with_reducible refine (HKA.out w1 B1.out).mono ?_
   rintro e w2 ⟨rfl,hb⟩;have B2:=Hd (B1.out.trans (hb.mono B1.out.size));clear hb;go_wp2;go_ret;exact ⟨by rw [HR.out];first|done|rfl,B2.out⟩
  | true=>
   go_enter Tryz.func31,Tryz.ntmps31
   go_wp2_with fail
   with_reducible refine (HKA.out w B0.out).mono ?_
   rintro e w1 ⟨rfl,hb⟩;have B1:=Hd (B0.out.trans (hb.mono B0.out.size));clear hb;cases kb with
   | false=>
    go_wp2_with fail
    with_reducible refine (HKB.out w1 B1.out).mono ?_
    rintro e w2 ⟨rfl,hb⟩;have B2:=Hd (B1.out.trans (hb.mono B1.out.size));clear hb
    go_wp2_with fail
    with_reducible refine (HKA.out w2 B2.out).mono ?_
    rintro e w3 ⟨rfl,hb⟩;have B3:=Hd (B2.out.trans (hb.mono B2.out.size));clear hb;go_wp2;go_ret;exact ⟨by rw [HR.out];first|done|rfl,B3.out⟩
   | true=>
    go_wp2_with fail
    with_reducible refine (HKB.out w1 B1.out).mono ?_
    rintro e w2 ⟨rfl,hb⟩;have B2:=Hd (B1.out.trans (hb.mono B1.out.size));clear hb
    go_wp2_with fail
    with_reducible refine (HKA.out w2 B2.out).mono ?_
    rintro e w3 ⟨rfl,hb⟩;have B3:=Hd (B2.out.trans (hb.mono B2.out.size));clear hb;go_wp2;go_ret;exact ⟨by rw [HR.out];first|done|rfl,B3.out⟩
 ·have h0:(a == b)=false:=beq_eq_false_iff_ne.2 hab;have h1:decide (a=b)=false:=decide_eq_false hab;have HAB:=Hd hab;clear hab;cases ka with
  | false=>
   have HR:Hid (r=false):=Hd (by rw [H1.out (.inl rfl),h0,Bool.false_and]);clear H1 H2 H3 H4 H6 HPA HPB HFA HFB HBL HKB;go_enter Tryz.func31,Tryz.ntmps31
   go_wp2_with fail
   with_reducible refine (HKA.out w B0.out).mono ?_
   rintro e w1 ⟨rfl,hb⟩;have B1:=Hd (B0.out.trans (hb.mono B0.out.size));clear hb;go_wp2;go_ret;exact ⟨by rw [HR.out];first|done|rfl,B1.out⟩
  | true=>
   cases kb with
   | false=>
    have HR:Hid (r=false):=Hd (by rw [H1.out (.inr (.inl rfl)),h0,Bool.false_and]);clear H1 H2 H3 H4 H6 HPA HPB HFA HFB HBL;go_enter Tryz.func31,Tryz.ntmps31
    go_wp2_with fail
    with_reducible refine (HKA.out w B0.out).mono ?_
    rintro e w1 ⟨rfl,hb⟩;have B1:=Hd (B0.out.trans (hb.mono B0.out.size));clear hb
    go_wp2_with fail
    with_reducible refine (HKB.out w1 B1.out).mono ?_
    rintro e w2 ⟨rfl,hb⟩;have B2:=Hd (B1.out.trans (hb.mono B1.out.size));clear hb;go_wp2;go_ret;exact ⟨by rw [HR.out];first|done|rfl,B2.out⟩
   | true=>
    clear H1;cases pa with
    | true=>
     have HR:Hid (r=false):=Hd (H2.out HAB.out (.inl rfl));clear H2 H3 H4 H6 HPB HFA HFB HBL;go_enter Tryz.func31,Tryz.ntmps31
     go_wp2_with fail
     with_reducible refine (HKA.out w B0.out).mono ?_
     rintro e w1 ⟨rfl,hb⟩;have B1:=Hd (B0.out.trans (hb.mono B0.out.size));clear hb
     go_wp2_with fail
     with_reducible refine (HKB.out w1 B1.out).mono ?_
     rintro e w2 ⟨rfl,hb⟩;have B2:=Hd (B1.out.trans (hb.mono B1.out.size));clear hb
     go_wp2_with fail
     with_reducible refine (HPA.out w2).mono ?_
     rintro e w3 ⟨rfl,rfl⟩;go_wp2;go_ret;exact ⟨by rw [HR.out];first|done|rfl,B2.out⟩
    | false=>
     cases pb with
     | true=>
      have HR:Hid (r=false):=Hd (H2.out HAB.out (.inr (.inl rfl)));clear H2 H3 H4 H6 HFA HFB HBL;go_enter Tryz.func31,Tryz.ntmps31
      go_wp2_with fail
      with_reducible refine (HKA.out w B0.out).mono ?_
      rintro e w1 ⟨rfl,hb⟩;have B1:=Hd (B0.out.trans (hb.mono B0.out.size));clear hb
      go_wp2_with fail
      with_reducible refine (HKB.out w1 B1.out).mono ?_
      rintro e w2 ⟨rfl,hb⟩;have B2:=Hd (B1.out.trans (hb.mono B1.out.size));clear hb
      go_wp2_with fail
      with_reducible refine (HPA.out w2).mono ?_
      rintro e w3 ⟨rfl,rfl⟩
      go_wp2_with fail
      with_reducible refine (HPB.out w2).mono ?_
      rintro e w4 ⟨rfl,rfl⟩;go_wp2;go_ret;exact ⟨by rw [HR.out];first|done|rfl,B2.out⟩
     | false=>
      by_cases hbn:b=[110,117,108,108]
      ·have HR:Hid (r=false):=Hd (H2.out HAB.out (.inr (.inr hbn)));have g1:(b == [110,117,108,108])=true:=by rw [hbn];rfl
       have g2:decide (b=[110,117,108,108])=true:=decide_eq_true hbn;clear H2 H3 H4 H6 HFA HFB HBL hbn;go_enter Tryz.func31,Tryz.ntmps31
       go_wp2_with fail
       with_reducible refine (HKA.out w B0.out).mono ?_
       rintro e w1 ⟨rfl,hb⟩;have B1:=Hd (B0.out.trans (hb.mono B0.out.size));clear hb
       go_wp2_with fail
       with_reducible refine (HKB.out w1 B1.out).mono ?_
       rintro e w2 ⟨rfl,hb⟩;have B2:=Hd (B1.out.trans (hb.mono B1.out.size));clear hb
       go_wp2_with fail
       with_reducible refine (HPA.out w2).mono ?_
       rintro e w3 ⟨rfl,rfl⟩
       go_wp2_with fail
       with_reducible refine (HPB.out w2).mono ?_
       rintro e w4 ⟨rfl,rfl⟩;go_wp2;go_ret;exact ⟨by rw [HR.out];first|done|rfl,B2.out⟩
      have g1:(b == [110,117,108,108])=false:=beq_eq_false_iff_ne.2 hbn;have g2:decide (b=[110,117,108,108])=false:=decide_eq_false hbn;have HBN:=Hd hbn;clear H2 hbn;by_cases han:a=[110,117,108,108]
      ·have HR:Hid (r=true):=Hd (H3.out rfl rfl rfl rfl HBN.out (.inl han));have g3:(a == [110,117,108,108])=true:=by rw [han];rfl
       have g4:decide (a=[110,117,108,108])=true:=decide_eq_true han;clear H3 H4 H6 HFA HFB HBL han;go_enter Tryz.func31,Tryz.ntmps31
       go_wp2_with fail
       with_reducible refine (HKA.out w B0.out).mono ?_
       rintro e w1 ⟨rfl,hb⟩;have B1:=Hd (B0.out.trans (hb.mono B0.out.size));clear hb
       go_wp2_with fail
       with_reducible refine (HKB.out w1 B1.out).mono ?_
       rintro e w2 ⟨rfl,hb⟩;have B2:=Hd (B1.out.trans (hb.mono B1.out.size));clear hb
       go_wp2_with fail
       with_reducible refine (HPA.out w2).mono ?_
       rintro e w3 ⟨rfl,rfl⟩
       go_wp2_with fail
       with_reducible refine (HPB.out w2).mono ?_
       rintro e w4 ⟨rfl,rfl⟩;go_wp2;go_ret;exact ⟨by rw [HR.out];first|done|rfl,B2.out⟩
      have g3:(a == [110,117,108,108])=false:=beq_eq_false_iff_ne.2 han;have g4:decide (a=[110,117,108,108])=false:=decide_eq_false han;have HAN:=Hd han;clear han;by_cases hbo:b=[79,98,106,101,99,116]
      ·have HR:Hid (r=true):=Hd (H3.out rfl rfl rfl rfl HBN.out (.inr hbo));have g5:(b == [79,98,106,101,99,116])=true:=by rw [hbo];rfl
       have g6:decide (b=[79,98,106,101,99,116])=true:=decide_eq_true hbo;clear H3 H4 H6 HFA HFB HBL hbo;go_enter Tryz.func31,Tryz.ntmps31
       go_wp2_with fail
       with_reducible refine (HKA.out w B0.out).mono ?_
       rintro e w1 ⟨rfl,hb⟩;have B1:=Hd (B0.out.trans (hb.mono B0.out.size));clear hb
       go_wp2_with fail
       with_reducible refine (HKB.out w1 B1.out).mono ?_
       rintro e w2 ⟨rfl,hb⟩;have B2:=Hd (B1.out.trans (hb.mono B1.out.size));clear hb
       go_wp2_with fail
       with_reducible refine (HPA.out w2).mono ?_
       rintro e w3 ⟨rfl,rfl⟩
       go_wp2_with fail
       with_reducible refine (HPB.out w2).mono ?_
       rintro e w4 ⟨rfl,rfl⟩;go_wp2;go_ret;exact ⟨by rw [HR.out];first|done|rfl,B2.out⟩
      have g5:(b == [79,98,106,101,99,116])=false:=beq_eq_false_iff_ne.2 hbo;have g6:decide (b=[79,98,106,101,99,116])=false:=decide_eq_false hbo;have H5:=Hd (fun M hM=>H4.out M hM HAB.out rfl rfl HAN.out hbo);have H7:=Hd (H6.out HAB.out rfl rfl HAN.out hbo);clear H3 H4 H6 hbo;go_enter Tryz.func31,Tryz.ntmps31
      go_wp2_with fail
      with_reducible refine (HKA.out w B0.out).mono ?_
      rintro e w1 ⟨rfl,hb⟩;have B1:=Hd (B0.out.trans (hb.mono B0.out.size));clear hb
      go_wp2_with fail
      with_reducible refine (HKB.out w1 B1.out).mono ?_
      rintro e w2 ⟨rfl,hb⟩;have B2:=Hd (B1.out.trans (hb.mono B1.out.size));clear hb
      go_wp2_with fail
      with_reducible refine (HPA.out w2).mono ?_
      rintro e w3 ⟨rfl,rfl⟩
      go_wp2_with fail
      with_reducible refine (HPB.out w2).mono ?_
      rintro e w4 ⟨rfl,rfl⟩
      go_wp2_with fail
      with_reducible refine (HFA.out w2 B2.out).mono ?_
      rintro e w5 ⟨rfl,hb⟩;have B5:=Hd (B2.out.trans (hb.mono B2.out.size));clear hb
      go_wp2_with fail
      with_reducible refine (HFB.out w5 B5.out).mono ?_
      rintro e w6 ⟨rfl,hb⟩;have B6:=Hd (B5.out.trans (hb.mono B5.out.size));clear hb;clear HKA HKB HPA HPB HFA HFB;cases oa with
      | none=>
       have i0:idxV none=(-1:Int):=rfl;rw [i0];have HR:Hid (r=false):=Hd (H7.out (.inl rfl));clear H5 H7 HBL;go_wp2;go_ret;exact ⟨by rw [HR.out];first|done|rfl,B6.out⟩
      | some i=>
       have i0:idxV (some i)=(i:Int):=rfl;have i1:(0:Int)<=(i:Int):=by omega
       rw [i0];cases ob with
       | none=>
        have j0:idxV none=(-1:Int):=rfl;rw [j0];have HR:Hid (r=false):=Hd (H7.out (.inr rfl));clear H5 H7 HBL;go_wp2;go_ret;exact ⟨by rw [HR.out];first|done|rfl,B6.out⟩
       | some j=>
        have j0:idxV (some j)=(j:Int):=rfl;have j1:(0:Int)<=(j:Int):=by omega
        rw [j0]
        go_wp2_with fail
        with_reducible refine (HBL.out w6 B6.out).mono ?_
        rintro e w7 ⟨RB,v,M,rfl,hmat,hrl,hsrc,hM,hb7⟩;obtain ⟨hil,hjl,hr⟩:=(H5.out M hM) i j rfl rfl;have B7:=Hd (B6.out.trans (hb7.mono B6.out.size));obtain ⟨rb,hrb⟩:∃ rb,RB[i]? = some rb:=⟨_,List.getElem?_eq_getElem (by rw [hrl];exact hil)⟩
        obtain ⟨vo,vc,rfl⟩:=hsrc.shape;rw [hrl] at hsrc ⊢;obtain ⟨ob,oo,u,rfl,hu,_,hcl⟩:=Src.elem hsrc i rb hrb;obtain rfl:=hu;have c0:w7.cell? ⟨ob,oo+i,none⟩=some (.slice (some ⟨rb,0,none⟩) m m):=by have q:=hcl 0 _ rfl;rw [Nat.mul_one] at q;exact q
        have c1:=hmat.cell hrb hjl;have c2:w7.cell? ⟨rb,0+j,none⟩=some (.bool (M i j)):=by rw [Nat.zero_add];exact c1
        have i2:(i:Int)<(m:Int):=by omega
        have j2:(j:Int)<(m:Int):=by omega
        have HR:=Hd hr;generalize M i j=x at c1 c2 HR;clear hmat hrl hsrc hM hb7 hil hjl hr hcl H5 HBL hrb;go_wp2;go_ret;exact ⟨by rw [HR.out];first|done|rfl,B7.out⟩
theorem rjoin_any {A:Nat->Prop} (cs:List Cls) (hL:Lined cs) (W:Wise (newT cs)) (sv:Value) (a b:List UInt8) (w:World) (hs:Src 8 ClsR A w sv (allR cs)) (ha:a.length<=9223372036854775807) (hb:b.length<=9223372036854775807) :
  Calls Tryz.prog 35 #[sv,.string (S a),.string (S b)] w (SaidS (joinE (newT cs) a b) w):=by
 have HKA:Hid (∀ V,Below w.heap.size w V->Calls Tryz.prog 33 #[sv,.string (S a)] V (fun e w'=>e=.returned (.bool (kindE (newT cs) a))/\Below V.heap.size V w')):=Hd (fun V hV=>rkind_any cs hL.len W sv a V (ClsR.st.below hs hV) ha);have HKB:Hid (∀ V,Below w.heap.size w V->Calls Tryz.prog 33 #[sv,.string (S b)] V (fun e w'=>e=.returned (.bool (kindE (newT cs) b))/\Below V.heap.size V w')):=Hd (fun V hV=>rkind_any cs hL.len W sv b V (ClsR.st.below hs hV) hb);have HPA:=Hd (fun V=>refplain_any a V);have HPB:=Hd (fun V=>refplain_any b V);have HF:Hid (∀ x V,Below w.heap.size w V->Calls Tryz.prog 67 #[sv,.string (S x)] V (fun e w'=>e=.returned (.int .i64 (idxV (placeE (newT cs) x)))/\Below V.heap.size V w')):=Hd (fun x V hV=>rfindE_any cs hL.len sv x V (ClsR.st.below hs hV));have HSU:Hid (∀ x y V,x.length<=9223372036854775807->y.length<=9223372036854775807->Below w.heap.size w V->Calls Tryz.prog 31 #[sv,.string (S x),.string (S y)] V (fun e w'=>e=.returned (.bool (subE (newT cs) x y))/\Below V.heap.size V w')):=Hd (fun x y V hx hy hV=>rsub_any cs hL W sv x y V (ClsR.st.below hs hV) hx hy);have HJ:=Hd (fun h1 h2=>W.joinR a b h1 h2);have HJ1:Hid (subE (newT cs) a b=true->joinE (newT cs) a b=b):=Hd (fun h=>by unfold joinE;rw [if_pos h]);have HJ2:Hid (subE (newT cs) a b=false->subE (newT cs) b a=true->joinE (newT cs) a b=a):=Hd (fun h h2=>by unfold joinE;rw [if_neg (by rw [h];simp),if_pos h2]);have HW:=Hd W;have HL:=Hd hL;have HS:=Hd hs;have HA:=Hd ha;have HB:=Hd hb;obtain ⟨so,sc,rfl⟩:=hs.shape;obtain ⟨m,hm⟩:∃ m,m=(allR cs).length:=⟨_,rfl⟩
 have HM:Hid (m=(newT cs).length):=Hd (by rw [hm,allR_len,newT_len]);rw [←hm] at HKA HKB HF HSU HS ⊢;have B0:=Hd (Below.refl w.heap.size w);clear hs ha hb W hL hm;unfold SaidS;generalize joinE (newT cs) a b=r at HJ HJ1 HJ2 ⊢;go_enter Tryz.func35,Tryz.ntmps35
 go_wp2_with fail
 with_reducible refine (HSU.out a b w HA.out HB.out B0.out).mono ?_
 rintro e w1 ⟨rfl,hb⟩;have B1:=Hd (B0.out.trans (hb.mono B0.out.size));clear hb;cases hab:subE (newT cs) a b with
 | true=>
  have HR:=Hd (HJ1.out hab);clear HJ HJ1 HJ2 HSU HF HKA HKB HPA HPB hab;go_wp2;go_ret;exact ⟨by rw [HR.out];first|done|rfl,B1.out⟩
 | false=>
  go_wp2_with fail
  with_reducible refine (HSU.out b a w1 HB.out HA.out B1.out).mono ?_
  rintro e w2 ⟨rfl,hb⟩;have B2:=Hd (B1.out.trans (hb.mono B1.out.size));clear hb;cases hba:subE (newT cs) b a with
  | true=>
   have HR:=Hd (HJ2.out hab hba);clear HJ HJ1 HJ2 HSU HF HKA HKB HPA HPB hab hba;go_wp2;go_ret;exact ⟨by rw [HR.out];first|done|rfl,B2.out⟩
  | false=>
   have HJ3:=Hd (HJ.out hab hba);clear HJ HJ1 HJ2 hab hba
   go_wp2_with fail
   with_reducible refine (HKA.out w2 B2.out).mono ?_
   rintro e w3 ⟨rfl,hb⟩;have B3:=Hd (B2.out.trans (hb.mono B2.out.size));clear hb;cases hka:kindE (newT cs) a with
   | false=>
    have HR:Hid (r=[]):=Hd (by have h:=HJ3.out;rw [hka] at h;exact h);clear HJ3 HSU HF HKA HKB HPA HPB hka;go_wp2;go_ret;exact ⟨by rw [HR.out];first|done|rfl,B3.out⟩
   | true=>
    go_wp2_with fail
    with_reducible refine (HKB.out w3 B3.out).mono ?_
    rintro e w4 ⟨rfl,hb⟩;have B4:=Hd (B3.out.trans (hb.mono B3.out.size));clear hb;cases hkb:kindE (newT cs) b with
    | false=>
     have HR:Hid (r=[]):=Hd (by have h:=HJ3.out;rw [hka,hkb] at h;exact h);clear HJ3 HSU HF HKA HKB HPA HPB hka hkb;go_wp2;go_ret;exact ⟨by rw [HR.out];first|done|rfl,B4.out⟩
    | true=>
     go_wp2_with fail
     with_reducible refine (HPA.out w4).mono ?_
     rintro e w5 ⟨rfl,rfl⟩;cases hpa:plainB a with
     | true=>
      have HR:Hid (r=[]):=Hd (by have h:=HJ3.out;rw [hka,hkb,hpa] at h;exact h);clear HJ3 HSU HF HKA HKB HPA HPB hka hkb hpa;go_wp2;go_ret;exact ⟨by rw [HR.out];first|done|rfl,B4.out⟩
     | false=>
      go_wp2_with fail
      with_reducible refine (HPB.out w4).mono ?_
      rintro e w6 ⟨rfl,rfl⟩;cases hpb:plainB b with
      | true=>
       have HR:Hid (r=[]):=Hd (by have h:=HJ3.out;rw [hka,hkb,hpa,hpb] at h;exact h);clear HJ3 HSU HF HKA HKB HPA HPB hka hkb hpa hpb;go_wp2;go_ret;exact ⟨by rw [HR.out];first|done|rfl,B4.out⟩
      | false=>
       have HR:Hid (r=match (lineE (newT cs) (placeE (newT cs) a)).find? (fun x=>subE (newT cs) b (nmE (newT cs) x)) with|some x=>nmE (newT cs) x|none=>objL):=Hd (by have h:=HJ3.out;rw [hka,hkb,hpa,hpb] at h;exact h);clear HJ3 HKA HKB HPA HPB hka hkb hpa hpb
       go_wp2_with fail
       with_reducible refine (HF.out a w4 B4.out).mono ?_
       rintro e w7 ⟨rfl,hb⟩;have B7:=Hd (B4.out.trans (hb.mono B4.out.size));clear hb;go_wp2
       go_loopw [7] (fun v7 wr=>∃ (o:Option Nat) (L1:List Nat),v7=.int .i64 (idxV o)/\(∀ i,o=some i->i<(newT cs).length)/\lineE (newT cs) (placeE (newT cs) a)=L1++lineE (newT cs) o/\(∀ x ∈ L1,subE (newT cs) b (nmE (newT cs) x)=false)/\Below w.heap.size w wr) (fun v7 _=>(lineE (newT cs) (optOf v7)).length)
       case atStart=>exact ⟨placeE (newT cs) a,[],rfl,fun i hi=>placeE_lt hi,rfl,fun x hx=>(by cases hx),B7.out⟩
       case round=>
        obtain ⟨o,L1,rfl,hol,hln,hno,hbw⟩:=hrel;have HOL:=Hd hol;have HLN:=Hd hln;have HNO:=Hd hno;have BW:=Hd hbw;clear hol hln hno hbw;cases o with
        | none=>
         have i0:idxV none=(-1:Int):=rfl;rw [i0];have HR2:Hid (r=objL):=Hd (by
          rw [HR.out,HLN.out,lineE_none,List.append_nil];have:L1.find? (fun x=>subE (newT cs) b (nmE (newT cs) x))=none:=by
           rw [List.find?_eq_none];intro x hx;rw [HNO.out x hx];decide
          rw [this])
         clear HR HLN HNO HSU HF;go_wp2;go_ret;exact ⟨by rw [HR2.out];first|done|rfl,BW.out⟩
        | some i=>
         have hil:=HOL.out i rfl;obtain ⟨en,hen⟩:∃ en,(newT cs)[i]? = some en:=⟨_,List.getElem?_eq_getElem hil⟩
         have hx:(allR cs)[i]? = some en.cls:=by rw [allR_at,hen];rfl
         obtain ⟨b1,o1,v,rfl,hv,_,hcl⟩:=Src.elem (ClsR.st.below HS.out BW.out) i en.cls hx;obtain ⟨_,_,_,rfl,_⟩:=hv;have HC:Hid (∀ V,Below wr.heap.size wr V->V.cell? ⟨b1,o1+i * 8,none⟩=some (.string (S en.cls.name))/\V.cell? ⟨b1,o1+i * 8+1,none⟩=some (.string (S en.cls.sup))):=Hd (fun V hV=>
          have ho:=Only.ofBelow (S:=fun _=>False) hV
          ⟨ho.cell (a:=⟨b1,o1+i * 8,none⟩) (hcl 0 _ rfl) id,ho.cell (a:=⟨b1,o1+i * 8+1,none⟩) (hcl 1 _ rfl) id⟩)
         have i0:idxV (some i)=(i:Int):=rfl;have i1:(0:Int)<=(i:Int):=by omega
         have i2:(i:Int)<(m:Int):=by have:=HM.out;omega
         have HNM:Hid (nmE (newT cs) i=en.cls.name):=Hd (nmE_eq hen);have HNL:Hid (en.cls.name.length<=9223372036854775807):=Hd (by have:=HW.out.sh.nm i en hen;omega);have HUP:Hid (placeE (newT cs) en.cls.sup=en.up):=Hd (HL.out.sup hen);have HUL:Hid (∀ j,en.up=some j->j<(newT cs).length):=Hd (fun j hj=>HW.out.upj i en j hen hj);have HLI:Hid (lineE (newT cs) (some i)=i :: lineE (newT cs) en.up):=Hd (HW.out.line hen);rw [i0];obtain ⟨c0,c1⟩:=HC.out wr (Below.refl _ _);clear hx hcl hil hen HOL
         go_wp2_with fail
         with_reducible refine (HSU.out b en.cls.name wr HB.out HNL.out BW.out).mono ?_
         rintro e w8 ⟨rfl,hb⟩;have B8:=Hd (BW.out.trans (hb.mono BW.out.size));obtain ⟨c0,c1⟩:=HC.out w8 hb;clear hb;cases hsb:subE (newT cs) b en.cls.name with
         | true=>
          have HR2:Hid (r=en.cls.name):=Hd (by
           have:(L1++lineE (newT cs) (some i)).find? (fun x=>subE (newT cs) b (nmE (newT cs) x))=some i:=by
            rw [List.find?_append,List.find?_eq_none.2 (fun x hx=>by rw [HNO.out x hx];decide),HLI.out,List.find?_cons,HNM.out,hsb];rfl
           rw [HR.out,HLN.out,this];exact HNM.out)
          clear HR HLN HNO HSU HF hsb HLI HNM;go_wp2;go_ret;exact ⟨by rw [HR2.out];first|done|rfl,B8.out⟩
         | false=>
          have HNO2:Hid (∀ x ∈ L1++[i],subE (newT cs) b (nmE (newT cs) x)=false):=Hd (fun x hx=>by
           rcases List.mem_append.1 hx with h|h
           ·exact HNO.out x h
           ·rw [List.mem_singleton.1 h,HNM.out];exact hsb)
          have HLN2:Hid (lineE (newT cs) (placeE (newT cs) a)=(L1++[i])++lineE (newT cs) en.up):=Hd (by rw [HLN.out,HLI.out];simp);have HME:Hid ((lineE (newT cs) en.up).length<(lineE (newT cs) (some i)).length):=Hd (by rw [HLI.out,List.length_cons];omega);clear hsb HLI HNM HNO HLN HR
          go_wp2_with fail
          with_reducible refine (HF.out en.cls.sup w8 B8.out).mono ?_
          rintro e w9 ⟨rfl,hb⟩;have B9:=Hd (B8.out.trans (hb.mono B8.out.size));rw [HUP.out];clear hb c0 c1;go_wp2
          go_roundw
          case rel=>exact ⟨en.up,L1++[i],rfl,HUL.out,HLN2.out,HNO2.out,B9.out⟩
          case measure=>rw [optOf_idx,optOf_nat];exact HME.out
theorem hierSubs_any {A:Nat->Prop} (cs:List Cls) (sv:Value) (qa qb:List UInt8) (w:World) (hs:Src 8 ClsR A w sv cs) (hT:HT6 w) (hfit:∀ c ∈ cs,c.Fit) (hheld:∀ c ∈ cs,c.held) (hlen:cs.length<=9223372036854775807) (hqa:qa.length<=9223372036854775807) (hqb:qb.length<=9223372036854775807) :
  Calls Tryz.prog 6 #[sv,.string (S qa),.string (S qb)] w (Said true w):=by
 have HA:Hid (∀ W,Below w.heap.size w W->Calls Tryz.prog 22 #[] W (Said true W)):=Hd (fun W hW=>awake6_any W (hT.ft.keep hW) (hT.ct.keep hW));have HF:=Hd (few6_any cs sv w hs hfit hlen);have HN:Hid (∀ W,Below w.heap.size w W->cs.length<=12->Calls Tryz.prog 23 #[sv] W (NewG cs W)):=Hd (fun W hW hl=>new_any cs sv W (ClsR.st.below hs hW) (hT.ft.keep hW) (hT.ct.keep hW) hfit hheld (by omega));have HRN:Hid (∀ W,Below w.heap.size w W->cs.length<=12->Calls Tryz.prog 24 #[sv] W (RNewG cs W)):=Hd (fun W hW hl=>rnew_any cs sv W (ClsR.st.below hs hW) hfit hheld (by omega));unfold Few6G at HF;unfold Said at HA;obtain ⟨so,sc,rfl⟩:=hs.shape;have za:((S qa).size:Int)=(qa.length:Int):=by rw [S_size]
 have zb:((S qb).size:Int)=(qb.length:Int):=by rw [S_size]
 have HQA:=Hd hqa;have HQB:=Hd hqb;clear hs hT hfit hheld hlen hqa hqb;unfold Said;go_enter Tryz.func6,Tryz.ntmps6
 go_wp2_with fail
 with_reducible refine HF.out.mono ?_
 rintro e w1 ⟨b,rfl,hb12,hb1⟩;have HB1:=Hd hb1;have H12:=Hd hb12;clear hb1 hb12 HF;cases b with
 | false=>
  go_wp2_with fail
  with_reducible refine (HA.out w1 HB1.out).mono ?_
  rintro e wz0 ⟨rfl,hb⟩;have HZ0:=Hd (HB1.out.trans (hb.mono HB1.out.size));clear hb;go_wp2;go_ret;exact ⟨rfl,HZ0.out⟩
 | true=>
  by_cases hg0:100<qa.length
  ·have ig0:100<(qa.length:Int):=by omega
   clear hg0
   go_wp2_with fail
   with_reducible refine (HA.out w1 HB1.out).mono ?_
   rintro e wz0 ⟨rfl,hb⟩;have HZ0:=Hd (HB1.out.trans (hb.mono HB1.out.size));clear hb;go_wp2;go_ret;exact ⟨rfl,HZ0.out⟩
  have ig0:¬ (100<(qa.length:Int)):=by omega
  clear hg0;by_cases hg1:100<qb.length
  ·have ig1:100<(qb.length:Int):=by omega
   clear hg1
   go_wp2_with fail
   with_reducible refine (HA.out w1 HB1.out).mono ?_
   rintro e wz0 ⟨rfl,hb⟩;have HZ0:=Hd (HB1.out.trans (hb.mono HB1.out.size));clear hb;go_wp2;go_ret;exact ⟨rfl,HZ0.out⟩
  have ig1:¬ (100<(qb.length:Int)):=by omega
  clear hg1;have HQA1:Hid (qa.length<=100):=Hd (by omega);have HQB1:Hid (qb.length<=100):=Hd (by omega);have HNW:=Hd (HN.out w1 HB1.out (H12.out rfl));have HRW:Hid (∀ W,Below w.heap.size w W->Calls Tryz.prog 24 #[.slice so cs.length sc] W (RNewG cs W)):=Hd (fun W hW=>HRN.out W hW (H12.out rfl));have HTW:Hid (cs.length<=12):=Hd (H12.out rfl);clear HN HRN H12
  go_wp2_with fail
  clear za zb ig0 ig1;with_reducible refine HNW.out.mono ?_
  rintro e w2 h;rcases h with ⟨i,z,hbad,rfl,hb2⟩|⟨hok,T,mb,B,rfl,htb,hb2⟩
  ·have HBD:=Hd hbad;have HB2:=Hd (HB1.out.trans (hb2.mono HB1.out.size));clear hb2 HNW;have HRC:=Hd (HRW.out w2 HB2.out);unfold RNewG at HRC
   go_wp2_with fail
   with_reducible refine HRC.out.mono ?_
   rintro e w3 h;rcases h with ⟨i',z',hbad',rfl,hb3⟩|⟨hok,_⟩
   ·have hz0:(z':Int) ≠ 0:=by have:=hbad'.ne;omega
    have hz1:((z':Int) != 0)=true:=by simpa using hz0
    have HB3:=Hd (HB2.out.trans (hb3.mono HB2.out.size));clear hb3 hbad hbad' HRC
    go_wp2_with fail
    with_reducible refine (HA.out w3 HB3.out).mono ?_
    rintro e wz0 ⟨rfl,hb⟩;have HZ0:=Hd (HB3.out.trans (hb.mono HB3.out.size));clear hb
    go_wp2_with fail
    with_reducible refine (HA.out wz0 HZ0.out).mono ?_
    rintro e wz1 ⟨rfl,hb⟩;have HZ1:=Hd (HZ0.out.trans (hb.mono HZ0.out.size));clear hb;go_wp2;go_ret;exact ⟨rfl,HZ1.out⟩
   ·exact (HBD.out.not hok).elim
  ·have HOK:=Hd hok;have HB2:=Hd (HB1.out.trans (hb2.mono HB1.out.size));have HTB:=Hd htb.tab;clear hb2 HNW htb;have HRC:=Hd (HRW.out w2 HB2.out);unfold RNewG at HRC
   go_wp2_with fail
   with_reducible refine HRC.out.mono ?_
   rintro e w3 h;rcases h with ⟨i',z',hbad',_⟩|⟨_,v,rfl,hsrc,hb3⟩
   ·exact (hbad'.not HOK.out).elim
   ·have HR:Hid (Below w2.heap.size w2 w3):=Hd hb3;have HB3:=Hd (HB2.out.trans (hb3.mono HB2.out.size));have HSUB:Hid (∀ W,Below w2.heap.size w2 W->Calls Tryz.prog 30 #[.pointer (some ⟨T,0,none⟩),.string (S qa),.string (S qb)] W (fun e w'=>e=.returned (.bool (subE (newT cs) qa qb))/\Below W.heap.size W w')):=Hd (fun W hW=>sub_any HTB.out HOK.out.shape qa qb W hW HQA.out HQB.out);have HKIN:Hid (∀ W,Below w2.heap.size w2 W->Calls Tryz.prog 32 #[.pointer (some ⟨T,0,none⟩),.string (S qa)] W (fun e w'=>e=.returned (.bool (kindE (newT cs) qa))/\Below W.heap.size W w')):=Hd (fun W hW=>kindt_any HTB.out qa W hW HQA.out);have HJOI:Hid (∀ W,Below w2.heap.size w2 W->Calls Tryz.prog 34 #[.pointer (some ⟨T,0,none⟩),.string (S qa),.string (S qb)] W (fun e w'=>e=.returned (.string (S (joinE (newT cs) qa qb)))/\Below W.heap.size W w')):=Hd (fun W hW=>joint_any HTB.out HOK.out.shape qa qb W hW (by have:=HQA1.out;omega) (by have:=HQB1.out;omega));have HRS:Hid (∀ W,Below w3.heap.size w3 W->Calls Tryz.prog 31 #[v,.string (S qa),.string (S qb)] W (fun e w'=>e=.returned (.bool (subE (newT cs) qa qb))/\Below W.heap.size W w')):=Hd (fun W hW=>rsub_any cs HOK.out.lined HOK.out.wise v qa qb W (ClsR.st.below hsrc hW) HQA.out HQB.out);have HRK:Hid (∀ W,Below w3.heap.size w3 W->Calls Tryz.prog 33 #[v,.string (S qa)] W (fun e w'=>e=.returned (.bool (kindE (newT cs) qa))/\Below W.heap.size W w')):=Hd (fun W hW=>rkind_any cs HOK.out.lined.len HOK.out.wise v qa W (ClsR.st.below hsrc hW) HQA.out);have HRJ:Hid (∀ W,Below w3.heap.size w3 W->Calls Tryz.prog 35 #[v,.string (S qa),.string (S qb)] W (fun e w'=>e=.returned (.string (S (joinE (newT cs) qa qb)))/\Below W.heap.size W w')):=Hd (fun W hW=>rjoin_any cs HOK.out.lined HOK.out.wise v qa qb W (ClsR.st.below hsrc hW) HQA.out HQB.out);obtain ⟨vo,vc,rfl⟩:=hsrc.shape;have e0:=S_toList (joinE (newT cs) qa qb);generalize subE (newT cs) qa qb=x0 at HSUB HRS;generalize kindE (newT cs) qa=x1 at HKIN HRK;generalize joinE (newT cs) qa qb=x2 at HJOI HRJ e0;clear hb3 hok hsrc HRC HRW HTB
    go_wp2_with fail
    with_reducible refine (HA.out w3 HB3.out).mono ?_
    rintro e w4 ⟨rfl,hb⟩;have HR4:=Hd (HR.out.trans (hb.mono HR.out.size));have H34:=Hd hb;clear hb HA
    go_wp2_with fail
    with_reducible refine (HSUB.out w4 HR4.out).mono ?_
    rintro e y1 ⟨rfl,hb⟩;have HR5:=Hd (HR4.out.trans (hb.mono HR4.out.size));have H35:=Hd (H34.out.trans (hb.mono H34.out.size));clear hb HSUB
    go_wp2_with fail
    with_reducible refine (HRS.out y1 H35.out).mono ?_
    rintro e y2 ⟨rfl,hb⟩;have HR6:=Hd (HR5.out.trans (hb.mono HR5.out.size));have H36:=Hd (H35.out.trans (hb.mono H35.out.size));clear hb HRS
    go_wp2_with fail
    with_reducible refine (HKIN.out y2 HR6.out).mono ?_
    rintro e y3 ⟨rfl,hb⟩;have HR7:=Hd (HR6.out.trans (hb.mono HR6.out.size));have H37:=Hd (H36.out.trans (hb.mono H36.out.size));clear hb HKIN
    go_wp2_with fail
    with_reducible refine (HRK.out y3 H37.out).mono ?_
    rintro e y4 ⟨rfl,hb⟩;have HR8:=Hd (HR7.out.trans (hb.mono HR7.out.size));have H38:=Hd (H37.out.trans (hb.mono H37.out.size));clear hb HRK
    go_wp2_with fail
    with_reducible refine (HJOI.out y4 HR8.out).mono ?_
    rintro e y5 ⟨rfl,hb⟩;have HR9:=Hd (HR8.out.trans (hb.mono HR8.out.size));have H39:=Hd (H38.out.trans (hb.mono H38.out.size));clear hb HJOI
    go_wp2_with fail
    with_reducible refine (HRJ.out y5 H39.out).mono ?_
    rintro e y6 ⟨rfl,hb⟩;have HZ:=Hd (HB3.out.trans ((H39.out.trans (hb.mono H39.out.size)).mono HB3.out.size));clear hb HRJ;go_wp2;go_ret;exact ⟨rfl,HZ.out⟩
theorem hierSubs_all (sv:Value) (l:List Cls) (qa qb:List UInt8) (w:World) (hT:HT6 w) (hs:Src 8 ClsR Anyw w sv l) (hr:∀ c ∈ l,c.real) (hlen:l.length<=9223372036854775807) (ha:qa.length<=9223372036854775807) (hb:qb.length<=9223372036854775807) :
  Calls Tryz.prog 6 #[sv,.string (S qa),.string (S qb)] w (Said true w):=
 hierSubs_any l sv qa qb w hs hT (fun c hc=>(hr c hc).2.1) (fun c hc=>(hr c hc).1) hlen ha hb
end Go.Proofs.YtpincofjopmaaaaGreatDoor
