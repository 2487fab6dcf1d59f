/-
  Texts HPrint, HThree, HThree2, HAwake: laws that the claims lean on.
  Conditions: as each law says.
-/
import Derived.Test.YtpincofjopmaaaaGreatDoorK35
set_option maxRecDepth 100000
set_option maxHeartbeats 16000000
namespace Go.Proofs.YtpincofjopmaaaaGreatDoor
open Go.RowKit
def fldText (f:Fld):List UInt8:=if f.tr then [] else 32 :: (f.name++(58 :: f.kind))
def printL (es:List Ent):List Nat->List UInt8
 | []=>[]
 | i :: l=>match l with
  | []=>[]
  | _ :: _=>(nmE es i++[40])++printL es l++[41]++(fldsAt es i).flatMap fldText++[46]
theorem pr_snoc (l:List Fld) (k:Nat) (x:Fld) (h:l[k]? = some x):(l.take (k+1)).flatMap fldText=(l.take k).flatMap fldText++fldText x:=by
 rw [List.take_add_one,h,List.flatMap_append];simp
theorem pr_le (l:List Fld) (k:Nat):((l.take k).flatMap fldText).length<=(l.flatMap fldText).length:=by
 conv=>rhs;rw [←List.take_append_drop k l,List.flatMap_append,List.length_append]
 omega
def PrG (w0:World) (b:Nat) (l:List UInt8) (e:Ending) (w':World):Prop:=e=.returned (.tuple #[])/\SB w0 w' b l
theorem print_any {A:Nat->Prop} {B:Nat->Nat} {T mb:Nat} {es:List Ent} {w0 W0:World} (hT:Tab A w0 T mb B es) (hfl:∀ (i:Nat) (e:Ent),es[i]? = some e->e.cls.flds.length<=32) (h00:Below w0.heap.size w0 W0) (b:Nat) :
  ∀ (L:List Nat) (o:Option Nat) (w:World) (l:List UInt8),Chain es L o->SB W0 w b l->l.length+(printL es L).length<=140737488355328->
   Calls Tryz.prog 73 #[ptrV B o,.pointer (some ⟨b,0,none⟩)] w (PrG W0 b (l++printL es L)):=by
 intro L;induction L with
 | nil=>
  intro o w l hc hs _;obtain rfl:o=none:=hc;rw [ptrV_none,show l++printL es []=l from List.append_nil l];have HS:=Hd hs;clear hs;go_enter Tryz.func73,Tryz.ntmps73
  go_wp2_with fail
  go_end0
  exact ⟨rfl,HS.out⟩
 | cons i L ih=>
  intro o w l hc hs hlim;obtain ⟨rfl,e,he,hcl⟩:=hc;rw [ptrV_some];obtain ⟨lv,fv,mv,sv,hb,_,hfs,_,_⟩:=hT.ent i e he;have hfa:fldsAt es i=e.cls.flds:=by unfold fldsAt;rw [he]
  have hna:nmE es i=e.cls.name:=nmE_eq he;have hfe:=hfl i e he;have HBX:Hid (∀ W,Below W0.heap.size W0 W->W.cell? ⟨B i,9,none⟩=some (ptrV B e.up)/\W.cell? ⟨B i,7,none⟩=some fv/\W.cell? ⟨B i,1,none⟩=some (.string (S e.cls.name))):=Hd (fun W hW=>by
   have h1:=hb.below (h00.trans (hW.mono h00.size));exact ⟨h1.cell 9 rfl,h1.cell 7 rfl,h1.cell 1 rfl⟩)
  obtain ⟨fo,fc,rfl⟩:=hfs.shape;have HF:=Hd (Src.elem hfs);have H00:=Hd h00;cases L with
  | nil=>
   have hu:e.up=none:=hcl;rw [hu,ptrV_none] at HBX;rw [show l++printL es [i]=l from List.append_nil l];obtain ⟨g1,g2,g3⟩:=HBX.out w hs.bel;have HS:=Hd hs;clear hs ih hb hfs hT hlim HF hfa hna he hcl hu HBX g2 g3 hfe hfl;go_enter Tryz.func73,Tryz.ntmps73
   go_wp2_with fail
   go_end0
   exact ⟨rfl,HS.out⟩
  | cons j L'=>
   have hp:printL es (i :: j :: L')=(e.cls.name++[40])++printL es (j :: L')++[41]++e.cls.flds.flatMap fldText++[46]:=by
    show (nmE es i++[40])++printL es (j :: L')++[41]++(fldsAt es i).flatMap fldText++[46]=_
    rw [hfa,hna]
   rw [hp] at hlim ⊢;have HI:Hid (∀ W m,SB W0 W b m->m.length+(printL es (j :: L')).length<=140737488355328->Calls Tryz.prog 73 #[ptrV B e.up,.pointer (some ⟨b,0,none⟩)] W (PrG W0 b (m++printL es (j :: L')))):=Hd (fun W m h1 h2=>ih e.up W m hcl h1 h2);obtain ⟨_,e',he',_⟩:=hcl;have hu:e.up=some j:=by assumption
   rw [hu,ptrV_some] at HBX HI;generalize printL es (j :: L')=P at HI hlim ⊢;have HS:=Hd hs;have HL:=Hd hlim;obtain ⟨g1,g2,g3⟩:=HBX.out w hs.bel;generalize e.cls.name=nm at HBX HL g3 ⊢;generalize e.cls.flds=fl at HF HL HBX g2 hfe ⊢;obtain ⟨n,hn⟩:∃ n,n=fl.length:=⟨_,rfl⟩
   rw [←hn] at HBX g2 hfe;have HN:=Hd hn;clear hs ih hb hfs hT hlim hfa hna he he' hu hp hn h00 hfl;have hcat:S nm++(⟨#[40]⟩:ByteArray)=S (nm++[40]):=S_append nm [40];have hov:¬ (9223372036854775807<(S nm).size+1):=by rw [S_size];have:=HL.out;simp at this;omega
   go_enter Tryz.func73,Tryz.ntmps73
   go_wp2_with fail
   refine (sb_write HS.out (nm++[40]) (by have:=HL.out;simp at this ⊢;omega)).mono ?_;rintro e1 w1 ⟨rfl,s1⟩;obtain ⟨a1,a2,a3⟩:=HBX.out w1 s1.bel;have HS1:=Hd s1;clear s1 g1 g2 g3 hcat hov
   go_wp2_with fail
   with_reducible refine (HI.out w1 _ HS1.out ?_).mono ?_
   ·have:=HL.out;simp at this ⊢;omega
   unfold PrG;rintro e2 w2 ⟨rfl,s2⟩;obtain ⟨b1,b2,b3⟩:=HBX.out w2 s2.bel;have HS2:=Hd s2;clear s2 a1 a2 a3
   go_wp2_with fail
   refine (sb_write HS2.out [41] (by have:=HL.out;simp at this ⊢;omega)).mono ?_;rintro e3 w3 ⟨rfl,s3⟩;obtain ⟨c1,c2,c3⟩:=HBX.out w3 s3.bel;have HS3:=Hd s3;clear s3 b1 b2 b3
   go_wp2_with fail
   generalize hbase:l++(nm++[40])++P++[41]=base at HS3;have HBA:=Hd hbase;have hbl:base.length+(fl.flatMap fldText).length+1<=140737488355328:=by have:=HL.out;rw [←hbase];simp at this ⊢;omega
   have HBL:=Hd hbl;clear hbase hbl c1 c3 HS HS1 HS2
   go_loopw [37] (fun v37 wr=>∃ k:Nat,k<=n/\v37=.int .i64 k/\SB W0 wr b (base++(fl.take k).flatMap fldText)) (fun v37 _=>n - (intOf v37).toNat)
   case atStart=>exact ⟨0,Nat.zero_le _,rfl,by simpa using HS3.out⟩
   case round=>
    obtain ⟨k,hk,rfl,hsw⟩:=hrel;have HSW:=Hd hsw;clear hsw HS3;by_cases hlt:k<n
    ·have hkl:k<fl.length:=by have:=HN.out;omega
     obtain ⟨x,hx⟩:∃ x,fl[k]? = some x:=⟨_,List.getElem?_eq_getElem hkl⟩
     have hoW:=Only.ofBelow (S:=fun _=>False) (H00.out.trans (HSW.out.bel.mono H00.out.size));obtain ⟨b1,o1,v1,rfl,hv,hsz,hcl⟩:=HF.out k x hx;obtain rfl:=hv;have d0:wr.cell? ⟨b1,o1+k * 3,none⟩=some (.string (S x.name)):=hoW.cell (a:=⟨b1,o1+k * 3,none⟩) (hcl 0 _ rfl) id;have d1:wr.cell? ⟨b1,o1+k * 3+1,none⟩=some (.string (S x.kind)):=hoW.cell (a:=⟨b1,o1+k * 3+1,none⟩) (hcl 1 _ rfl) id;have d2:wr.cell? ⟨b1,o1+k * 3+2,none⟩=some (.bool x.tr):=hoW.cell (a:=⟨b1,o1+k * 3+2,none⟩) (hcl 2 _ rfl) id;have hsn:=pr_snoc fl k x hx;have hle:=pr_le fl (k+1);have HSN:=Hd hsn;have HLE:=Hd hle;have hk0:(0:Int)<=k:=by omega
     have hkn:(k:Int)<(n:Int):=by omega
     have hs4:=HSW.out.alloc (.cells #[.string (S x.name),.string (S x.kind),.bool x.tr] 62);have HS4:=Hd hs4;clear hcl hsz hkl hx hoW hsn hle hs4;obtain ⟨xn,xk,xt⟩:=x;cases xt with
     | true=>
      go_wp2_with fail
      go_roundw
      case rel=>exact ⟨k+1,by omega,by go_num,by rw [HSN.out,show fldText ⟨xn,xk,true⟩=[] from rfl,List.append_nil];exact HS4.out⟩
      case measure=>simp [intOf];omega
     | false=>
      have hft:fldText ⟨xn,xk,false⟩=32 :: (xn++(58 :: xk)):=rfl;have hcat:(⟨#[32]⟩:ByteArray)++S xn++(⟨#[58]⟩:ByteArray)++S xk=S (32 :: (xn++(58 :: xk))):=by
       rw [show (⟨#[32]⟩:ByteArray)++S xn=S (32 :: xn) from S_append [32] xn,show S (32 :: xn)++(⟨#[58]⟩:ByteArray)=S (32 :: xn++[58]) from S_append _ [58],S_append];simp
      rw [hft] at HSN;have hxl:(32 :: (xn++(58 :: xk))).length+base.length+((fl.take k).flatMap fldText).length<=140737488355328:=by
       have h1:=HLE.out;rw [HSN.out,List.length_append] at h1;have:=HBL.out;omega
      have HXL:=Hd hxl;have hb1:¬ (9223372036854775807<1+(S xn).size):=by rw [S_size];simp at hxl;omega
      have hb2:¬ (9223372036854775807<1+(S xn).size+1):=by rw [S_size];simp at hxl;omega
      have hb3:¬ (9223372036854775807<1+(S xn).size+1+(S xk).size):=by rw [S_size,S_size];simp at hxl;omega
      clear hxl hft
      go_wp2_with fail
      with_reducible refine (sb_write HS4.out (32 :: (xn++(58 :: xk))) (by have:=HXL.out;simp at this ⊢;omega)).mono ?_
      rintro e4 w4 ⟨rfl,s4⟩;have HS5:=Hd s4;clear s4 d0 d1 d2 hb1 hb2 hb3 hcat
      go_wp2_with fail
      go_roundw
      case rel=>exact ⟨k+1,by omega,by go_num,by rw [HSN.out,←List.append_assoc];exact HS5.out⟩
      case measure=>simp [intOf];omega
    ·obtain rfl:k=n:=by omega
     have htk:fl.take k=fl:=by rw [HN.out];exact List.take_length
     rw [htk] at HSW;clear htk
     go_wp2_with fail
     refine (sb_write HSW.out [46] (by have:=HBL.out;simp at this ⊢;omega)).mono ?_;rintro e4 w4 ⟨rfl,s4⟩;have HS4:=Hd s4;clear s4
     go_wp2_with fail
     go_end0
     refine ⟨rfl,?_⟩;have h5:=HS4.out;rw [←HBA.out] at h5
     simpa [List.append_assoc] using h5
def printE (es:List Ent) (n:List UInt8):List UInt8:=printL es (lineE es (placeE es n))
theorem printt_any {A:Nat->Prop} {B:Nat->Nat} {T mb:Nat} {es:List Ent} {w0:World} (hT:Tab A w0 T mb B es) (hS:Shape es) (n:List UInt8) (w:World) (hw:Below w0.heap.size w0 w) (hn:n.length<=9223372036854775807) (hlim:(printE es n).length<=140737488355328) :
  Calls Tryz.prog 28 #[.pointer (some ⟨T,0,none⟩),.string (S n)] w (fun e w'=>e=.returned (.string (S (printE es n)))/\Below w.heap.size w w'):=by
 have HC:=Hd (fun (W:World) (h:SB w W w.heap.size [])=>print_any hT hS.fl hw w.heap.size (lineE es (placeE es n)) (placeE es n) W [] (hS.line _ (fun i hi=>placeE_lt hi)) h (by simpa [printE] using hlim));have hb1:Below w.heap.size w (w.alloc (.cells #[.pointer none,.slice none 0 0] 108)):=(Below.refl _ w).alloc (Nat.le_refl _) _;have t0:(w.alloc (.cells #[.pointer none,.slice none 0 0] 108)).cell? ⟨T,0,none⟩=some (.map (some mb)):=(hT.below (hw.trans (hb1.mono hw.size))).box.cell 0 rfl;have hlk:=(hT.below (hw.trans (hb1.mono hw.size))).look n hn;have hs:=SB.new w;generalize hpe:printL es (lineE es (placeE es n))=P at HC;have hpp:printE es n=P:=hpe;rw [hpp];obtain ⟨q,hq⟩:=ptrV_is B (placeE es n);rw [hq] at hlk HC;unfold PrG at HC;have HS:=Hd hs;clear hq hT hS hw hn hs hpe hpp hlim hb1;go_enter Tryz.func28,Tryz.ntmps28
 go_wp2_with fail
 with_reducible refine (HC.out _ HS.out).mono ?_
 rintro e w1 ⟨rfl,h1⟩;have H1:=Hd h1;clear h1 t0 hlk HC HS
 go_wp2_with fail
 with_reducible refine (sb_string H1.out).mono ?_
 rintro e w2 ⟨rfl,h2⟩;have H2:=Hd h2;clear h2;go_wp2;go_ret;exact ⟨by simp,H2.out⟩
def objE (es:List Ent) (n:List UInt8):Bool:=match placeE es n with
 | some i=>match es[i]? with|some e=>!e.cls.abs|none=>false
 | none=>false
theorem objects_any {A:Nat->Prop} {B:Nat->Nat} {T mb:Nat} {es:List Ent} {w0:World} (hT:Tab A w0 T mb B es) (n:List UInt8) (w:World) (hw:Below w0.heap.size w0 w) (hn:n.length<=9223372036854775807) :
  Calls Tryz.prog 27 #[.pointer (some ⟨T,0,none⟩),.string (S n)] w (fun e w'=>e=.returned (.bool (objE es n))/\Below w.heap.size w w'):=by
 have t0:w.cell? ⟨T,0,none⟩=some (.map (some mb)):=(hT.below hw).box.cell 0 rfl;have hlk:=(hT.below hw).look n hn;unfold objE;cases hp:placeE es n with
 | none=>
  rw [hp,ptrV_none] at hlk;clear hT hw hn hp;go_enter Tryz.func27,Tryz.ntmps27
  go_wp2_with fail
  go_ret;exact ⟨rfl,Below.refl _ _⟩
 | some i=>
  rw [hp,ptrV_some] at hlk;have hi:=placeE_lt hp;obtain ⟨lv,fv,mv,sv,hb,_⟩:=hT.ent i es[i] (List.getElem?_eq_getElem hi);dsimp only;rw [List.getElem?_eq_getElem hi];have t5:w.cell? ⟨B i,5,none⟩=some (.bool es[i].cls.abs):=(hb.below hw).cell 5 rfl;dsimp only;generalize es[i].cls.abs=ab at t5 ⊢;clear hT hw hn hp hb;go_enter Tryz.func27,Tryz.ntmps27
  go_wp2_with fail
  go_ret;exact ⟨rfl,Below.refl _ _⟩
def exA:Cls:=⟨[65],[79,98,106,101,99,116],[],false,false,false,[⟨[120],[105,110,116],false⟩,⟨[116],[116,101,120,116],true⟩],[]⟩
def exB:Cls:=⟨[66],[65],[],false,false,false,[],[]⟩
def exCC:Cls:=⟨[67],[65],[],false,false,false,[],[]⟩
def exT:List Cls:=[exA,exB,exCC]
theorem exT_e:∀ c ∈ exT,c.e=0:=by decide +kernel
theorem exT_held:∀ c ∈ exT,c.held:=by
 intro c hc m hm;simp [exT,exA,exB,exCC] at hc
 rcases hc with rfl|rfl|rfl <;> simp at hm
theorem exT_fit:∀ c ∈ exT,c.Fit:=by
 intro c hc;simp [exT] at hc
 rcases hc with rfl|rfl|rfl
 ·exact ⟨by simp [exA,strOk],by simp [exA,strOk],by simp [exA],fun f hf=>by simp [exA] at hf;rcases hf with rfl|rfl <;> simp [strOk],by simp [exA],by simp [exA],by simp [exA],by simp [exA]⟩
 ·exact ⟨by simp [exB,strOk],by simp [exB,strOk],by simp [exB],by simp [exB],by simp [exB],by simp [exB],by simp [exB],by simp [exB]⟩
 ·exact ⟨by simp [exCC,strOk],by simp [exCC,strOk],by simp [exCC],by simp [exCC],by simp [exCC],by simp [exCC],by simp [exCC],by simp [exCC]⟩
theorem exT_names:∀ k c,exT[k]? = some c->placeE (enteredE exT k) c.name=none:=by
 intro k c h
 match k,h with
 | 0,h=>obtain rfl:=Option.some.inj h;decide +kernel
 | 1,h=>obtain rfl:=Option.some.inj h;decide +kernel
 | 2,h=>obtain rfl:=Option.some.inj h;decide +kernel
 | k+3,h=>simp [exT] at h
theorem exT_ups:∀ c ∈ exT,(upE (allE0 exT) c.sup).isSome=true:=by decide +kernel
theorem exT_likes:∀ c ∈ exT,likesOk (allE0 exT) c.like=true:=by decide +kernel
theorem exT_loops:firstT (loopedP (newT exT) (newT exT).length).loop<0:=by decide +kernel
theorem exT_checks:∀ x ∈ orderP (newT exT) (newT exT).length,chkT (newT exT) x=0:=by decide +kernel
theorem exT_good {w:World} {e:Ending} {w':World} (h:NewG exT w e w'):NewOk exT/\∃ T mb B,e=.returned (.tuple #[.pointer (some ⟨T,0,none⟩),.int .i64 0,.int .i64 0])/\Tb w.heap.size w' T mb B (newT exT) (newT exT).length/\Below w.heap.size w w':=by
 rcases h with ⟨i,z,h,_⟩|h
 ·exfalso
  rcases h with ⟨k,c,_,hc,_,hn,_⟩|⟨_,⟨k,c,_,hc,_,hn,_⟩|⟨_,⟨k,c,_,hc,hn,_⟩|⟨_,⟨hn,_⟩|⟨_,k,x,hx,_,_,hn,_⟩⟩⟩⟩
  ·exact hn (exT_e c (List.mem_of_getElem? hc))
  ·rw [exT_names k c hc] at hn;cases hn
  ·rcases hn with ⟨_,hn⟩|⟨_,_,hn⟩
   ·have:=exT_ups c (List.mem_of_getElem? hc);rw [hn] at this;cases this
   ·have:=exT_likes c (List.mem_of_getElem? hc);rw [hn] at this;cases this
  ·have:=exT_loops;omega
  ·exact hn (exT_checks x (List.mem_of_getElem? hx))
 ·exact h
theorem exT_j1:joinE (newT exT) [66] [67]=[65]:=by decide +kernel
theorem exT_j2:joinE (newT exT) [66] [66,91,93]=[79,98,106,101,99,116]:=by decide +kernel
theorem exT_j3:joinE (newT exT) [105,110,116] [65]=[]:=by decide +kernel
theorem exT_p1:printE (newT exT) [65]=[65,40,41,32,120,58,105,110,116,46]:=by decide +kernel
theorem exT_p2:printE (newT exT) [66]=[66,40,65,40,41,32,120,58,105,110,116,46,41,46]:=by decide +kernel
theorem exT_s:subE (newT exT) [66] [65]=true:=by decide +kernel
theorem exT_o:objE (newT exT) [66]=true:=by decide +kernel
theorem exT_f:(placeF (newT exT) [66] [116])=some 1:=by decide +kernel
theorem src_two {α:Type} {n:Nat} {R:ElemRel α} {w:World} {b:Nat} {t:TypeId} (x y:α) (u v:Value) (hu:R Anyw w x u) (hv:R Anyw w y v) (hs:u.cells.size=n) (hs2:v.cells.size=n) (hb:w.heap[b]? = some (.cells (u.cells++v.cells) t (0,0))):Src n R Anyw w (.slice (some ⟨b,0,none⟩) 2 2) [x,y]:=by
 refine .inr ⟨b,0,2,rfl,⟨trivial,lt_of_block hb,by simp,by decide⟩,fun k z hz=>?_⟩
 match k,hz with
 | 0,hz=>
  simp at hz
  subst hz;refine ⟨u,hu,hs,fun j q hj=>?_⟩;have hjl:=cells_lt hs hj;simp only [Nat.zero_mul,Nat.zero_add];unfold World.cell?;rw [hb];show (u.cells++v.cells)[j]? = some q
  rw [Array.getElem?_append_left (by omega)];exact hj
 | 1,hz=>
  simp at hz
  subst hz;refine ⟨v,hv,hs2,fun j q hj=>?_⟩;rw [Nat.one_mul,Nat.zero_add];unfold World.cell?;rw [hb];show (u.cells++v.cells)[n+j]? = some q
  rw [Array.getElem?_append_right (by omega),hs,Nat.add_sub_cancel_left];exact hj
 | k+2,hz=>simp at hz
theorem src_three {α:Type} {n:Nat} {R:ElemRel α} {w:World} {b:Nat} {t:TypeId} (x y z:α) (u v s:Value) (hu:R Anyw w x u) (hv:R Anyw w y v) (hz:R Anyw w z s) (h1:u.cells.size=n) (h2:v.cells.size=n) (h3:s.cells.size=n) (hb:w.heap[b]? = some (.cells (u.cells++v.cells++s.cells) t (0,0))):Src n R Anyw w (.slice (some ⟨b,0,none⟩) 3 3) [x,y,z]:=by
 refine .inr ⟨b,0,3,rfl,⟨trivial,lt_of_block hb,by simp,by decide⟩,fun k c hc=>?_⟩
 match k,hc with
 | 0,hc=>
  simp at hc
  subst hc;refine ⟨u,hu,h1,fun j q hj=>?_⟩;have hjl:=cells_lt h1 hj;simp only [Nat.zero_mul,Nat.zero_add];unfold World.cell?;rw [hb];show (u.cells++v.cells++s.cells)[j]? = some q
  rw [Array.getElem?_append_left (by simp;omega),Array.getElem?_append_left (by omega)];exact hj
 | 1,hc=>
  simp at hc
  subst hc;refine ⟨v,hv,h2,fun j q hj=>?_⟩;have hjl:=cells_lt h2 hj;rw [Nat.one_mul,Nat.zero_add];unfold World.cell?;rw [hb];show (u.cells++v.cells++s.cells)[n+j]? = some q
  rw [Array.getElem?_append_left (by simp;omega),Array.getElem?_append_right (by omega),h1,Nat.add_sub_cancel_left];exact hj
 | 2,hc=>
  simp at hc
  subst hc;refine ⟨s,hz,h3,fun j q hj=>?_⟩;unfold World.cell?;rw [hb];show (u.cells++v.cells++s.cells)[0+2 * n+j]? = some q
  rw [Array.getElem?_append_right (by simp;omega),Array.size_append,h1,h2,show 0+2 * n+j - (n+n)=j by omega];exact hj
 | k+3,hc=>simp at hc
def ThreeG (w:World) (e:Ending) (w':World):Prop:=∃ v,e=.returned v/\Src 8 ClsR Anyw w' v exT/\Below w.heap.size w w'
theorem three_any (w:World):Calls Tryz.prog 58 #[] w (ThreeG w):=by
 unfold ThreeG;go_enter Tryz.func58,Tryz.ntmps58
 go_wp2_with fail
 go_ret;have hF:∀ o:Obj,((w.alloc (.cells #[.string ⟨#[120]⟩,.string ⟨#[105,110,116]⟩,.bool false,.string ⟨#[116]⟩,.string ⟨#[116,101,120,116]⟩,.bool true] 62)).alloc o).heap[w.heap.size]? = some (.cells #[.string ⟨#[120]⟩,.string ⟨#[105,110,116]⟩,.bool false,.string ⟨#[116]⟩,.string ⟨#[116,101,120,116]⟩,.bool true] 62 (0,0)):=fun o=>((Only.refl (fun _=>False) _).alloc _).heap (heap_alloc_new w _) id
 refine ⟨_,rfl,src_three exA exB exCC
  (.agg #[.string ⟨#[65]⟩,.string ⟨#[79,98,106,101,99,116]⟩,.slice none 0 0,.bool false,.bool false,.bool false,.slice (some ⟨w.heap.size,0,none⟩) 2 2,.slice none 0 0])
  (.agg #[.string ⟨#[66]⟩,.string ⟨#[65]⟩,.slice none 0 0,.bool false,.bool false,.bool false,.slice none 0 0,.slice none 0 0])
  (.agg #[.string ⟨#[67]⟩,.string ⟨#[65]⟩,.slice none 0 0,.bool false,.bool false,.bool false,.slice none 0 0,.slice none 0 0])
  ⟨_,_,_,rfl,Src.nil,src_two _ _ (fldV ⟨[120],[105,110,116],false⟩) (fldV ⟨[116],[116,101,120,116],true⟩) rfl rfl rfl rfl (hF _),Src.nil⟩
  ⟨_,_,_,rfl,Src.nil,Src.nil,Src.nil⟩ ⟨_,_,_,rfl,Src.nil,Src.nil,Src.nil⟩ rfl rfl rfl ((heap_alloc_new' (w.alloc _) _ _ (by simp)).trans rfl),below_alloc (below_alloc (Below.refl _ _) _) _⟩
theorem NewOk.acyc {cs:List Cls} (h:NewOk cs):Acyc (newT cs):=acyc_of (loopedP_flag (by have:=h.lined.len;rw [newT_len];omega) (fun c d hd=>h.lined.par c d hd) h.lined.self) h.loops
theorem NewOk.shape {cs:List Cls} (h:NewOk cs):Shape (newT cs):=h.lined.shape h.acyc
theorem awake6_any (w:World) (hF:FaultTab w) (hC:CT w) :
  Calls Tryz.prog 22 #[] w (Said true w):=by
 have HF:=Hd hF;have HC:=Hd hC;clear hF hC;go_enter Tryz.func22,Tryz.ntmps22
 go_wp2_with fail
 with_reducible refine (three_any w).mono ?_
 unfold ThreeG;rintro e w1 ⟨v,rfl,hs,hb1⟩;have HN:=Hd (new_any exT v w1 hs (HF.out.keep hb1) (HC.out.keep hb1) exT_fit exT_held (by decide));have HB1:=Hd hb1;clear hs hb1
 go_wp2_with fail
 with_reducible refine HN.out.mono ?_
 rintro e w2 h;obtain ⟨ok,T,mb,B,rfl,tb,hb2⟩:=exT_good h;have HSH:=Hd ok.shape;have HT:=Hd tb.tab;have HB2:=Hd (HB1.out.trans (hb2.mono HB1.out.size));clear h ok tb hb2 HN;have HJ0:Hid (∀ W,Below w2.heap.size w2 W->Calls Tryz.prog 34 #[.pointer (some ⟨T,0,none⟩),.string ⟨#[66]⟩,.string ⟨#[67]⟩] W (fun e w'=>e=.returned (.string ⟨#[65]⟩)/\Below W.heap.size W w')):=Hd (fun W hW=>by
  have h:=joint_any HT.out HSH.out [66] [67] W hW (by decide) (by decide);rw [exT_j1] at h;exact h)
 have HJ1:Hid (∀ W,Below w2.heap.size w2 W->Calls Tryz.prog 34 #[.pointer (some ⟨T,0,none⟩),.string ⟨#[66]⟩,.string ⟨#[66,91,93]⟩] W (fun e w'=>e=.returned (.string ⟨#[79,98,106,101,99,116]⟩)/\Below W.heap.size W w')):=Hd (fun W hW=>by
  have h:=joint_any HT.out HSH.out [66] [66,91,93] W hW (by decide) (by decide);rw [exT_j2] at h;exact h)
 have HJ2:Hid (∀ W,Below w2.heap.size w2 W->Calls Tryz.prog 34 #[.pointer (some ⟨T,0,none⟩),.string ⟨#[105,110,116]⟩,.string ⟨#[65]⟩] W (fun e w'=>e=.returned (.string ⟨#[]⟩)/\Below W.heap.size W w')):=Hd (fun W hW=>by
  have h:=joint_any HT.out HSH.out [105,110,116] [65] W hW (by decide) (by decide);rw [exT_j3] at h;exact h)
 have HP0:Hid (∀ W,Below w2.heap.size w2 W->Calls Tryz.prog 28 #[.pointer (some ⟨T,0,none⟩),.string ⟨#[65]⟩] W (fun e w'=>e=.returned (.string ⟨#[65,40,41,32,120,58,105,110,116,46]⟩)/\Below W.heap.size W w')):=Hd (fun W hW=>by
  have h:=printt_any HT.out HSH.out [65] W hW (by decide) (by rw [exT_p1];decide);rw [exT_p1] at h;exact h)
 have HP1:Hid (∀ W,Below w2.heap.size w2 W->Calls Tryz.prog 28 #[.pointer (some ⟨T,0,none⟩),.string ⟨#[66]⟩] W (fun e w'=>e=.returned (.string ⟨#[66,40,65,40,41,32,120,58,105,110,116,46,41,46]⟩)/\Below W.heap.size W w')):=Hd (fun W hW=>by
  have h:=printt_any HT.out HSH.out [66] W hW (by decide) (by rw [exT_p2];decide);rw [exT_p2] at h;exact h)
 have HS0:Hid (∀ W,Below w2.heap.size w2 W->Calls Tryz.prog 30 #[.pointer (some ⟨T,0,none⟩),.string ⟨#[66]⟩,.string ⟨#[65]⟩] W (fun e w'=>e=.returned (.bool true)/\Below W.heap.size W w')):=Hd (fun W hW=>by
  have h:=sub_any HT.out HSH.out [66] [65] W hW (by decide) (by decide);rw [exT_s] at h;exact h)
 have HS1:Hid (∀ W,Below w2.heap.size w2 W->Calls Tryz.prog 38 #[.pointer (some ⟨T,0,none⟩),.string ⟨#[66]⟩,.string ⟨#[116]⟩] W (fun e w'=>e=.returned (.int .i64 1)/\Below W.heap.size W w')):=Hd (fun W hW=>by
  have h:=placet_any HT.out HSH.out [66] [116] W hW (by decide);rw [exT_f] at h;exact h)
 have HS2:Hid (∀ W,Below w2.heap.size w2 W->Calls Tryz.prog 27 #[.pointer (some ⟨T,0,none⟩),.string ⟨#[66]⟩] W (fun e w'=>e=.returned (.bool true)/\Below W.heap.size W w')):=Hd (fun W hW=>by
  have h:=objects_any HT.out [66] W hW (by decide);rw [exT_o] at h;exact h)
 have hz2:Below w2.heap.size w2 w2:=Below.refl _ _;have HZ:=Hd hz2;clear hz2 HT HSH
 go_wp2_with fail
 with_reducible refine (HJ0.out w2 HZ.out).mono ?_
 rintro e v0 ⟨rfl,hb⟩;have HZ0:=Hd (HZ.out.trans (hb.mono HZ.out.size));clear hb HZ;rename Hid (Below w2.heap.size w2 v0)=>HZ
 go_wp2_with fail
 with_reducible refine (HJ1.out v0 HZ.out).mono ?_
 rintro e v1 ⟨rfl,hb⟩;have HZ1:=Hd (HZ.out.trans (hb.mono HZ.out.size));clear hb HZ;rename Hid (Below w2.heap.size w2 v1)=>HZ
 go_wp2_with fail
 with_reducible refine (HJ2.out v1 HZ.out).mono ?_
 rintro e v2 ⟨rfl,hb⟩;have HZ2:=Hd (HZ.out.trans (hb.mono HZ.out.size));clear hb HZ;rename Hid (Below w2.heap.size w2 v2)=>HZ
 go_wp2_with fail
 with_reducible refine (HP0.out v2 HZ.out).mono ?_
 rintro e v3 ⟨rfl,hb⟩;have HZ3:=Hd (HZ.out.trans (hb.mono HZ.out.size));clear hb HZ;rename Hid (Below w2.heap.size w2 v3)=>HZ
 go_wp2_with fail
 with_reducible refine (HP1.out v3 HZ.out).mono ?_
 rintro e v4 ⟨rfl,hb⟩;have HZ4:=Hd (HZ.out.trans (hb.mono HZ.out.size));clear hb HZ;rename Hid (Below w2.heap.size w2 v4)=>HZ
 go_wp2_with fail
 with_reducible refine (HS0.out v4 HZ.out).mono ?_
 rintro e v5 ⟨rfl,hb⟩;have HZ5:=Hd (HZ.out.trans (hb.mono HZ.out.size));clear hb HZ;rename Hid (Below w2.heap.size w2 v5)=>HZ
 go_wp2_with fail
 with_reducible refine (HS1.out v5 HZ.out).mono ?_
 rintro e v6 ⟨rfl,hb⟩;have HZ6:=Hd (HZ.out.trans (hb.mono HZ.out.size));clear hb HZ;rename Hid (Below w2.heap.size w2 v6)=>HZ
 go_wp2_with fail
 with_reducible refine (HS2.out v6 HZ.out).mono ?_
 rintro e v7 ⟨rfl,hb⟩;have HZ7:=Hd (HZ.out.trans (hb.mono HZ.out.size));clear hb HZ;rename Hid (Below w2.heap.size w2 v7)=>HZ
 go_wp2_with fail
 with_reducible refine (given_any v7 (HF.out.keep (HB2.out.trans (HZ.out.mono HB2.out.size)))).mono ?_
 unfold GivenG;rintro e w9 ⟨gv,us,rfl,ht,hb⟩;obtain ⟨go,gc,rfl⟩:=ht.shape;rw [show givenL.length=8 from rfl];have HW:=Hd ((HB2.out.trans (HZ.out.mono HB2.out.size)).trans (hb.mono (HB2.out.trans (HZ.out.mono HB2.out.size)).size));clear ht hb;go_wp2;go_ret;exact ⟨rfl,HW.out⟩
end Go.Proofs.YtpincofjopmaaaaGreatDoor
