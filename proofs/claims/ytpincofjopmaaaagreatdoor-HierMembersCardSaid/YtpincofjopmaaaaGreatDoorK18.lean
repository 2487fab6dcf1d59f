/-
  Texts HFlds, HPlace, HMeth, HMeth2, HCopy0: laws that the claims lean on.
  Conditions: as each law says.
-/
import Derived.Test.YtpincofjopmaaaaGreatDoorK17
set_option maxRecDepth 100000
set_option maxHeartbeats 16000000
namespace Go.Proofs.YtpincofjopmaaaaGreatDoor
open Go.RowKit
theorem info_fld:(Tryz.prog.info? 62).map (fun i=>(i.zero,i.size,i.bytes))=some (some (.agg #[.string ⟨#[]⟩,.string ⟨#[]⟩,.bool false]),3,40):=by kernel_rfl
theorem TRow.lower {α:Type} {n:Nat} {t:TypeId} {R:ElemRel α} (hR:Stays R) {lo lo':Nat} {w:World} {vs:Value} {m:List α} {us:List Value} (h:TRow n t R lo w vs m us) (hl:lo'<=lo):TRow n t R lo' w vs m us:=
 ⟨h.row,fun g hg=>Nat.le_trans hl (h.own g hg),h.len,h.size,fun k x hx=>by obtain ⟨u,h1,h2⟩:=h.each k x hx;exact ⟨u,h1,hR.mono h2 (fun i _ hi=>⟨Nat.le_trans hl hi.1,hi.2⟩)⟩⟩
def fldsAt (es:List Ent) (i:Nat):List Fld:=match es[i]? with|some e=>e.cls.flds|none=>[]
def fldsL (es:List Ent):List Nat->List Fld
 | []=>[]
 | i :: l=>fldsL es l++fldsAt es i
theorem fldsL_le {es:List Ent} (h:∀ (i:Nat) (e:Ent),es[i]? = some e->e.cls.flds.length<=32):∀ L,(fldsL es L).length<=L.length * 32
 | []=>by simp [fldsL]
 | i :: l=>by
  have ih:=fldsL_le h l;have h1:(fldsAt es i).length<=32:=by
   unfold fldsAt;cases he:es[i]? with
   | none=>simp
   | some e=>exact h i e he
  simp only [fldsL,List.length_append,List.length_cons];omega
def FldsG (fs:List Fld) (w:World) (e:Ending) (w':World):Prop:=∃ v,e=.returned v/\TRow 3 62 FldR w.heap.size w' v fs (fs.map fldV)/\Below w.heap.size w w'
theorem fields_any {A:Nat->Prop} {B:Nat->Nat} {T mb:Nat} {es:List Ent} {w0:World} (hT:Tab A w0 T mb B es) (hfl:∀ (i:Nat) (e:Ent),es[i]? = some e->e.cls.flds.length<=32) :
  ∀ (L:List Nat) (o:Option Nat) (w:World),Chain es L o->L.length<=1048576->Below w0.heap.size w0 w->Calls Tryz.prog 87 #[ptrV B o] w (FldsG (fldsL es L) w):=by
 intro L;induction L with
 | nil=>
  intro o w hc _ _;obtain rfl:o=none:=hc;rw [ptrV_none];go_enter Tryz.func87,Tryz.ntmps87
  go_wp2_with fail
  go_ret;exact ⟨_,rfl,TRow.nil _ _,Below.refl _ _⟩
 | cons i l ih=>
  intro o w hc hl hw;obtain ⟨rfl,e,he,hcl⟩:=hc;rw [ptrV_some];obtain ⟨lv,fv,mv,sv,hb,_,hfs,_,_⟩:=hT.ent i e he;have hfa:fldsAt es i=e.cls.flds:=by unfold fldsAt;rw [he]
  have hll:=fldsL_le hfl l;have hle:=hfl i e he;rw [List.length_cons] at hl;obtain ⟨j0,hji,hz0,hz1,hz2⟩:=info_parts info_fld;have HC:Hid (∀ W,Below w.heap.size w W->Calls Tryz.prog 87 #[ptrV B e.up] W (fun en w'=>∃ v,en=.returned v/\TRow 3 62 FldR w.heap.size w' v (fldsL es l) ((fldsL es l).map fldV)/\Below w.heap.size w w')):=Hd (fun W hW=>
   (ih e.up W hcl (by omega) (hw.trans (hW.mono hw.size))).mono fun en w' ⟨v,h1,h2,h3⟩=>⟨v,h1,h2.lower FldR.st hW.size,hW.trans (h3.mono hW.size)⟩)
  have HAP:Hid (∀ (W:World) (v:Value) (ty:TypeId),TRow 3 62 FldR w.heap.size W v (fldsL es l) ((fldsL es l).map fldV)->Below w.heap.size w W->∃ v' w',(Builtin.append_ #[23,23] ty #[v,fv]).run Tryz.prog W=.ok v' w'/\
    TRow 3 62 FldR w.heap.size w' v' (fldsL es (i :: l)) ((fldsL es (i :: l)).map fldV)/\Below w.heap.size w w'):=Hd (fun W v ty h1 h2=>by
   obtain ⟨v',w',hr,q1,q2⟩:=flat_append (f:=fldV) (n:=3) (by decide) (fun _=>rfl) (fun x u hu=>by simp [Value.cells] at hu;rcases hu with rfl|rfl|rfl <;> rfl) 23 ty 62 j0 _ 40 Tryz.underlying23 hji hz0 hz1 hz2 rfl h1 h2.size
    (FldR.st.below hfs (hw.trans (h2.mono hw.size))) (by omega) (by omega)
   refine ⟨v',w',hr,?_,h2.trans ((q2.only.below h2.size (fun g hg=>h1.own g hg)))⟩;show TRow 3 _ FldR _ w' v' (fldsL es l++fldsAt es i) _
   rw [hfa];show TRow 3 _ FldR _ w' v' (fldsL es l++e.cls.flds) ((fldsL es l++fldsAt es i).map fldV)
   rw [hfa];exact q1)
  have HS:Hid (∀ W,Below w.heap.size w W->W.cell? ⟨B i,9,none⟩=some (ptrV B e.up)/\W.cell? ⟨B i,7,none⟩=some fv):=Hd (fun W hW=>⟨(hb.below (hw.trans (hW.mono hw.size))).cell 9 rfl,(hb.below (hw.trans (hW.mono hw.size))).cell 7 rfl⟩);obtain ⟨fo,fc,rfl⟩:=hfs.shape;have h0:Below w.heap.size w w:=Below.refl _ _;clear ih hcl hfs hb hfa hll hle hl hji hz0 hz1 hz2 hw hT hfl;obtain ⟨q,hq⟩:=ptrV_is B e.up;rw [hq] at HC HS;clear hq;generalize e.cls.flds.length=n at HAP HS;unfold FldsG;generalize fldsL es (i :: l)=fs at HAP ⊢;generalize fldsL es l=fs0 at HC HAP;clear he;obtain ⟨g1,g2⟩:=HS.out w h0;go_enter Tryz.func87,Tryz.ntmps87
  go_upto_region 3 with fail
  first
  | (go_region_held3 (fun W=>W.cell? ⟨B i,9,none⟩=some (.pointer q)/\W.cell? ⟨B i,7,none⟩=some (.slice fo n fc)) ((refine HS.out _ ?_;(repeat (first|(with_reducible exact Below.refl _ _)|(with_reducible assumption)|(with_reducible refine below_drew ?_)))))
    (first
     | ((go_at_call 87;(with_reducible refine (HC.out _ ?_).mono ?_);(focus ((repeat (first|(with_reducible exact Below.refl _ _)|(with_reducible assumption)|(with_reducible refine below_drew ?_)));done));rintro en w1 ⟨v1,rfl,t1,b1⟩))
     | ((obtain ⟨v2,w2,hr,t2,b2⟩:=HAP.out _ _ 23 t1 b1;refine step_append_eq (by rfl) _ _ 23 (by rfl) _ _ v2 w2 (by rfl) (by rfl) hr ?_))))
  | fail
  all_goals
   have T2:=Hd t2;have B2:=Hd b2;clear t1 b1 t2 b2 hr g1 g2;go_wp2;go_ret;exact ⟨_,rfl,T2.out,B2.out⟩
def fldsO (es:List Ent) (n:List UInt8):List Fld:=fldsL es (lineE es (placeE es n))
theorem lineF_len (es:List Ent):∀ (n:Nat) (o:Option Nat),(lineF es n o).length<=n
 | 0,_=>by simp [lineF]
 | n+1,none=>by simp [lineF]
 | n+1,some i=>by
  unfold lineF;split
  ·rw [List.length_cons];exact Nat.succ_le_succ (lineF_len es n _)
  ·simp
theorem fieldst_any {A:Nat->Prop} {B:Nat->Nat} {T mb:Nat} {es:List Ent} {w0:World} (hT:Tab A w0 T mb B es) (hS:Shape es) (n:List UInt8) (w:World) (hw:Below w0.heap.size w0 w) (hn:n.length<=9223372036854775807) :
  Calls Tryz.prog 36 #[.pointer (some ⟨T,0,none⟩),.string (S n)] w (FldsG (fldsO es n) w):=by
 have HC:=Hd (fields_any hT hS.fl (lineE es (placeE es n)) (placeE es n) w (hS.line _ (fun i hi=>placeE_lt hi)) (Nat.le_trans (lineF_len es _ _) hS.len) hw);have t0:=(hT.below hw).box.cell 0 rfl;have hlk:=(hT.below hw).look n hn;obtain ⟨q,hq⟩:=ptrV_is B (placeE es n);rw [hq] at hlk HC;unfold FldsG at HC;clear hq hT hS hw hn;go_enter Tryz.func36,Tryz.ntmps36
 go_wp2_with fail
 refine HC.out.mono ?_;rintro e w1 ⟨v,rfl,h1,h2⟩;have H1:=Hd h1;have H2:=Hd h2;clear h1 h2 t0 hlk HC;go_wp2;go_ret;exact ⟨_,rfl,H1.out,H2.out⟩
def idxV:Option Nat->Int
 | some k=>k
 | none=>-1
def AtIdx (o:Option Nat) (w:World) (e:Ending) (w':World):Prop:=e=.returned (.int .i64 (idxV o))/\Below w.heap.size w w'
theorem find_at {α:Type} {p:α->Bool} {l:List α} {k:Nat} {x:α} (hx:l[k]? = some x) (hn:(l.take k).any p=false) (hp:p x=true):l.findIdx? p=some k:=by
 obtain ⟨hk,he⟩:=List.getElem?_eq_some_iff.1 hx;rw [List.findIdx?_eq_some_iff_getElem];refine ⟨hk,by rw [he];exact hp,fun j hj=>?_⟩;have h1:=List.any_eq_false.1 hn (l[j]'(by omega)) (List.mem_of_getElem? (i:=j) (by rw [List.getElem?_take_of_lt hj,List.getElem?_eq_getElem (by omega)]))
 simpa using h1
theorem indexx_fld {A:Nat->Prop} (F:Nat) (caps:Array Value) (p:Fld->Bool) (l:List (Fld)) (sv:Value) (w:World) (he:∀ args w,(callFunc F args).run Tryz.prog w=.ok (.enter F args) w)
  (hs:Src 3 FldR A w sv l) (hF:Tells FldR A F caps p l w) (hlen:l.length<=9223372036854775807) :
  Calls Tryz.prog 88 #[sv,.func (.func F) #[] caps] w (AtIdx (l.findIdx? p) w):=by
 have HF:=Hd hF;have HE:=Hd he;clear hF he;rcases hs with ⟨ao,cp0,rfl,rfl⟩|⟨b,o,cap,rfl,_,hc⟩
 ·go_enter Tryz.func88,Tryz.ntmps88;go_wp2
  go_loopw [8] (fun v8 wr=>v8=.int .i64 0/\wr=w) (fun _ _=>0)
  case atStart=>exact ⟨rfl,rfl⟩
  case round=>
   obtain ⟨rfl,rfl⟩:=hrel;go_wp2;go_ret;exact ⟨rfl,Below.refl _ _⟩
 ·have HC:=Hd hc;obtain ⟨n,hn⟩:∃ n,n=l.length:=⟨_,rfl⟩
  rw [←hn] at hlen ⊢;have HN:=Hd hn;clear hc hn;go_enter Tryz.func88,Tryz.ntmps88;go_wp2
  go_loopw [8] (fun v8 wr=>∃ k:Nat,k<=n/\v8=.int .i64 k/\(l.take k).any p=false/\Below w.heap.size w wr) (fun v8 _=>n - (intOf v8).toNat)
  case atStart=>exact ⟨0,Nat.zero_le _,rfl,by simp,Below.refl _ _⟩
  case round=>
   obtain ⟨k,hk,rfl,hall,hbw⟩:=hrel;have HA:=Hd hall;have HB:=Hd hbw;clear hall hbw;by_cases hlt:k<n
   ·have hkl:k<l.length:=by have:=HN.out;omega
    obtain ⟨x,hx⟩:∃ x,l[k]? = some x:=⟨_,List.getElem?_eq_getElem hkl⟩
    have hoW:=Only.ofBelow (S:=fun _=>False) HB.out;obtain ⟨v,hv,hsz,hcl⟩:=HC.out k x hx;have HV:=Hd (FldR.st.keep hv hoW (fun _ _=>id));obtain rfl:=hv;have d0:wr.cell? ⟨b,o+k * 3,none⟩=some (.string (S x.name)):=hoW.cell (a:=⟨b,o+k * 3,none⟩) (hcl 0 _ rfl) id;have d1:wr.cell? ⟨b,o+k * 3+1,none⟩=some (.string (S x.kind)):=hoW.cell (a:=⟨b,o+k * 3+1,none⟩) (hcl 1 _ rfl) id;have d2:wr.cell? ⟨b,o+k * 3+2,none⟩=some (.bool x.tr):=hoW.cell (a:=⟨b,o+k * 3+2,none⟩) (hcl 2 _ rfl) id;clear hcl hsz;have HX:=Hd hx;have hts:=take_any_succ p l k x hx;rw [HA.out,Bool.false_or] at hts;have HTS:=Hd hts;clear hx hkl hoW hts;have hk0:(0:Int)<=k:=by omega
    have hkn:(k:Int)<(n:Int):=by omega
    have he:=HE.out
    go_wp2_with fail
    refine (HF.out k x _ wr HX.out HB.out HV.out).mono ?_;rintro e w1 ⟨rfl,hb1⟩;have hb2:Below w.heap.size w w1:=HB.out.trans (hb1.mono HB.out.size);have HB2:=Hd hb2;clear hb1 hb2 he d0 d1 d2;cases hp:p x with
    | true=>
     rw [hp] at HTS;have hfin:l.findIdx? p=some k:=find_at (l:=l) HX.out HA.out hp;have HFI:=Hd hfin;clear hp hfin;go_wp2;go_ret;exact ⟨by rw [HFI.out];rfl,HB2.out⟩
    | false=>
     rw [hp] at HTS;clear hp;go_wp2
     go_roundw
     case rel=>exact ⟨k+1,by omega,by go_num,HTS.out,HB2.out⟩
     case measure=>simp [intOf];omega
   ·obtain rfl:k=n:=by omega
    have hfin:l.findIdx? p=none:=by
     have h:=HA.out;rw [HN.out,List.take_of_length_le (Nat.le_refl _)] at h;rw [List.findIdx?_eq_none_iff];intro x hx;have:=List.any_eq_false.1 h x hx
     simpa using this
    have HFI:=Hd hfin;clear hfin;go_wp2;go_ret;exact ⟨by rw [HFI.out];rfl,HB.out⟩
theorem place1_any {w:World} {f:Fld} {n:List UInt8} {c:Nat} (h:w.cell? ⟨c,0,none⟩=some (.string (S n))) :
  Calls Tryz.prog 89 #[fldV f,.pointer (some ⟨c,0,none⟩)] w (Said (f.name == n) w):=by
 have e0:=S_toList f.name;have e1:=S_toList n;have hlt:c<w.heap.size:=World.block_lt_of_cell? w _ h

 go_enter Tryz.func89,Tryz.ntmps89;go_wp2;go_ret;exact ⟨rfl,(Below.refl _ w).alloc (Nat.le_refl _) _⟩
def placeF (es:List Ent) (n f:List UInt8):Option Nat:=(fldsO es n).findIdx? (fun x=>x.name == f)
theorem placet_any {A:Nat->Prop} {B:Nat->Nat} {T mb:Nat} {es:List Ent} {w0:World} (hT:Tab A w0 T mb B es) (hS:Shape es) (n f:List UInt8) (w:World) (hw:Below w0.heap.size w0 w) (hn:n.length<=9223372036854775807) :
  Calls Tryz.prog 38 #[.pointer (some ⟨T,0,none⟩),.string (S n),.string (S f)] w (AtIdx (placeF es n f) w):=by
 have hmf:∀ (fn:Fn) (first cap:Array Value) (w:World),(Instr.makeFunc fn first cap).run Tryz.prog w=.ok (.func fn first cap) w:=fun _ _ _ _=>rfl
 have hb1:Below w.heap.size w (w.alloc (.cells #[.string (S f)] 9)):=below_alloc (Below.refl _ _) _;have HC:=Hd (fieldst_any hT hS n _ (hw.trans (hb1.mono hw.size)) hn);have hlen:(fldsO es n).length<=9223372036854775807:=by
  have h1:=fldsL_le hS.fl (lineE es (placeE es n));have h2:=lineF_len es es.length (placeE es n);have h3:=hS.len;unfold fldsO;unfold lineE at h1 ⊢;omega
 have HI:Hid (∀ w' v,Below (w.alloc (.cells #[.string (S f)] 9)).heap.size (w.alloc (.cells #[.string (S f)] 9)) w'->TRow 3 62 FldR (w.alloc (.cells #[.string (S f)] 9)).heap.size w' v (fldsO es n) ((fldsO es n).map fldV)->
   Calls Tryz.prog 88 #[v,.func (.func 89) #[] #[.pointer (some ⟨w.heap.size,0,none⟩)]] w' (AtIdx (placeF es n f) w')):=Hd (fun w' v hw' ht=>
  indexx_fld _ _ (fun x=>x.name == f) (fldsO es n) v w' (enters_fn Tryz.func89 (by kernel_rfl) rfl) (ht.src FldR.st) (fun k x u w'' _ hw'' hx=>by
   obtain rfl:=hx;exact place1_any (((Box.new w #[.string (S f)] 9).below (hw'.trans (hw''.mono hw'.size))).cell 0 rfl)) hlen)
 have HB1:=Hd hb1;unfold FldsG at HC;unfold AtIdx at HI ⊢;generalize idxV (placeF es n f)=z at HI ⊢;clear hT hS hw hn hb1 hlen;go_enter Tryz.func38,Tryz.ntmps38
 go_wp2_with fail
 refine HC.out.mono ?_;rintro e w1 ⟨v,rfl,h1,h2⟩;have HL:=Hd (HI.out w1 v h2 h1);have HB2:=Hd (HB1.out.trans (h2.mono HB1.out.size));clear h1 h2 HC HI
 go_wp2_with fail
 refine HL.out.mono ?_;rintro e w2 ⟨rfl,h3⟩;have HB3:=Hd (HB2.out.trans (h3.mono HB2.out.size));clear h3 HL;go_wp2;go_ret;exact ⟨rfl,HB3.out⟩
def MPtr (A:Nat->Prop) (w:World) (p:Value) (m:Mth):Prop:=∃ b o v,p=.pointer (some ⟨b,o,none⟩)/\MthR A w m v/\v.cells.size=7/\b<w.heap.size/\∀ (j:Nat) u,v.cells[j]? = some u->w.cell? ⟨b,o+j,none⟩=some u
def mthsAt (es:List Ent) (i:Nat):List Mth:=match es[i]? with|some e=>e.cls.mths|none=>[]
def ownM (es:List Ent) (x:Nat) (n:List UInt8):Option Mth:=(mthsAt es x).find? (fun m=>m.name == n)
def OwnP (A:Nat->Prop) (w:World) (o:Option Mth) (p:Value):Prop:=match o with
 | some m=>MPtr A w p m
 | none=>p=.pointer none
def OwnG (A:Nat->Prop) (w0:World) (o:Option Mth) (w:World) (e:Ending) (w':World):Prop:=∃ p,e=.returned p/\OwnP A w0 o p/\Below w.heap.size w w'
theorem ownm_any {A:Nat->Prop} {B:Nat->Nat} {T mb:Nat} {es:List Ent} {w0:World} (hT:Tab A w0 T mb B es) (i:Nat) (hi:i<es.length) (n:List UInt8) (w:World) (hw:Below w0.heap.size w0 w) (hlen:(mthsAt es i).length<=9223372036854775807) :
  Calls Tryz.prog 135 #[.pointer (some ⟨B i,0,none⟩),.string (S n)] w (OwnG A w0 (ownM es i n) w):=by
 obtain ⟨lv,fv,mv,sv,hb,_,_,hm,_⟩:=hT.ent i es[i] (List.getElem?_eq_getElem hi);have hma:mthsAt es i=es[i].cls.mths:=by unfold mthsAt;rw [List.getElem?_eq_getElem hi]
 rw [←hma] at hm;unfold ownM;generalize mthsAt es i=ms at hm hlen ⊢;obtain ⟨so,sc,rfl⟩:=hm.shape;have HM:=Hd (Src.elem hm);have HW:=Hd hw;obtain ⟨k0,hk0⟩:∃ k,k=ms.length:=⟨_,rfl⟩
 have HN:=Hd hk0;have c8:w.cell? ⟨B i,8,none⟩=some (.slice so ms.length sc):=(hb.below hw).cell 8 rfl;rw [←hk0] at hlen c8;have e1:=S_toList n;have hmlt:∀ (k:Nat) (x:Mth),ms[k]? = some x->∀ b o,so=some ⟨b,o,none⟩->b<w0.heap.size:=fun k x hx b o he=>by
  obtain ⟨b',o',v,h1,_,h3,h4⟩:=HM.out k x hx;rw [he] at h1;have h1':=Option.some.inj h1;have h5:b=b':=congrArg Addr.block h1';have:=World.block_lt_of_cell? w0 _ (h4 0 (v.cells[0]'(by omega)) (Array.getElem?_eq_getElem _));rw [h5];exact this
 have HLT:=Hd hmlt;clear hb hm hma hk0 hT hw hmlt;go_enter Tryz.func135,Tryz.ntmps135;go_wp2
 go_loopw [12] (fun v wr=>∃ k:Nat,k<=k0/\v=.int .i64 k/\(ms.take k).any (fun m=>m.name == n)=false/\wr=w) (fun v _=>k0 - (intOf v).toNat)
 case atStart=>exact ⟨0,Nat.zero_le _,rfl,by simp,rfl⟩
 case round=>
  obtain ⟨k,hk,rfl,hall,rfl⟩:=hrel;have HA:=Hd hall;clear hall;by_cases hlt:k<k0
  ·have hkl:k<ms.length:=by have:=HN.out;omega
   obtain ⟨x,hx⟩:∃ x,ms[k]? = some x:=⟨_,List.getElem?_eq_getElem hkl⟩
   obtain ⟨b,o,v,rfl,hv,hsz,hcl⟩:=HM.out k x hx;have HV:=Hd hv;have HX:=Hd hx;have HCL:=Hd hcl;obtain ⟨pv,cv,kv,hve,_,_,_⟩:=hv;have d0:wr.cell? ⟨b,o+k * 7,none⟩=some (.string (S x.name)):=(Only.ofBelow (S:=fun _=>False) HW.out).cell (a:=⟨b,o+k * 7,none⟩) (by have q:=hcl 0 (.string (S x.name)) (by rw [hve];rfl);exact q) id;have e2:=S_toList x.name;have hk0':(0:Int)<=k:=by omega
   have hkn:(k:Int)<(k0:Int):=by omega
   have HSZ:=Hd hsz;clear hcl hve hx hkl hsz;cases hp:(x.name == n) with
   | true=>
    have hfin:ms.find? (fun m=>m.name == n)=some x:=find_take HX.out (fun j y hj hy=>by
     have:=List.any_eq_false.1 HA.out y (List.mem_of_getElem? (i:=j) (by rw [List.getElem?_take_of_lt hj];exact hy))
     simpa using this) hp
    have HFI:=Hd hfin;clear hfin;go_wp2;go_ret;refine ⟨_,rfl,?_,Below.refl _ _⟩;rw [HFI.out];exact ⟨b,o+k * 7,v,rfl,HV.out,HSZ.out,HLT.out k x HX.out b o rfl,HCL.out⟩
   | false=>
    have hts:=take_any_succ (fun m:Mth=>m.name == n) ms k x HX.out;rw [HA.out,hp] at hts;have HTS:=Hd hts;clear hts;go_wp2
    go_roundw
    case rel=>exact ⟨k+1,by omega,by go_num,HTS.out,(by first|rfl|trivial)⟩
    case measure=>simp [intOf];omega
  ·obtain rfl:k0=k:=by omega
   have hfin:ms.find? (fun m=>m.name == n)=none:=by
    have h:=HA.out;rw [HN.out,List.take_of_length_le (Nat.le_refl _)] at h;rw [List.find?_eq_none];intro x hx;have:=List.any_eq_false.1 h x hx
    simpa using this
   have HFI:=Hd hfin;clear hfin;go_wp2;go_ret;refine ⟨_,rfl,?_,Below.refl _ _⟩;rw [HFI.out];exact rfl
def Seen1 (B:Nat->Nat) (x O Mc:Nat) (p:Value) (w w':World):Prop:=∃ w1,Below w.heap.size w w1/\w'=(w1.setCell ⟨O,0,none⟩ (entV B x)).setCell ⟨Mc,0,none⟩ p
theorem meth1_any {A:Nat->Prop} {B:Nat->Nat} {T mb:Nat} {es:List Ent} {w0:World} (hT:Tab A w0 T mb B es) (x:Nat) (hx:x<es.length) (n:List UInt8) (w:World) (hw:Below w0.heap.size w0 w) (hlen:(mthsAt es x).length<=9223372036854775807)
  (c1 O Mc:Nat) (po pm:Option Addr) (h1:w.cell? ⟨c1,0,none⟩=some (.string (S n))) (hO:Box w O #[.pointer po] 94) (hM:Box w Mc #[.pointer pm] 118) (hOM:O ≠ Mc) :
  Calls Tryz.prog 134 #[entV B x,.pointer (some ⟨c1,0,none⟩),.pointer (some ⟨O,0,none⟩),.pointer (some ⟨Mc,0,none⟩)] w
   (YesNo (fun w'=>∃ m p,ownM es x n=some m/\MPtr A w0 p m/\Seen1 B x O Mc p w w') (fun w'=>ownM es x n=none/\Seen1 B x O Mc (.pointer none) w w')):=by
 have HC:=Hd (ownm_any hT x hx n w hw hlen);have HO:=Hd hO;have HM:=Hd hM;have HOM:=Hd hOM;clear hT hw hlen hO hM hOM;unfold OwnG at HC;generalize ho:ownM es x n=o at HC ⊢;clear ho;go_enter Tryz.func134,Tryz.ntmps134
 go_wp2_with fail
 refine HC.out.mono ?_;rintro e w1 ⟨p,rfl,hp,hb⟩;have HB:=Hd hb;have ho:=HO.out.below hb;have hm:=HM.out.below hb;have hom:=HOM.out;have o0:=ho.cell 0 rfl;have o1:=ho.free 0;have m0:=(hm.set_ne (Ne.symm hom) 0 (entV B x)).cell 0 rfl;have m1:=(hm.set_ne (Ne.symm hom) 0 (entV B x)).free 0;cases o with
 | none=>
  obtain rfl:p=.pointer none:=hp;have f0:=((hm.set_ne (Ne.symm hom) 0 (entV B x)).set 0 (.pointer none)).cell 0 rfl;clear hb ho hm HC h1 hom;go_wp2;go_ret;exact ⟨false,rfl,(fun h=>by cases h),fun _=>⟨w1,HB.out,rfl⟩⟩
 | some m=>
  have HP:=Hd hp;obtain ⟨b,o,v,rfl,_⟩:=hp;have f0:=((hm.set_ne (Ne.symm hom) 0 (entV B x)).set 0 (.pointer (some ⟨b,o,none⟩))).cell 0 rfl;clear hb ho hm HC h1 hom;go_wp2;go_ret;exact ⟨true,rfl,fun _=>⟨m,_,rfl,HP.out,w1,HB.out,rfl⟩,(fun h=>by cases h)⟩
theorem load_ptr {P:Program} {t e:TypeId} (ht:P.underlying t=some (.pointer e)) {w:World} {a:Addr} {v:Value} (h:w.cell? a=some v):(loadVar t a).run P w=.ok v w:=by
 simp [loadVar,isAgg,run_underlying ht,h,Result.andThen]
def findM (es:List Ent) (o:Option Nat) (n:List UInt8):Option (Nat × Mth):=(aboveE es o).findSome? (fun x=>(ownM es x n).map (fun m=>(x,m)))
def MethP (A:Nat->Prop) (B:Nat->Nat) (w:World) (r:Option (Nat × Mth)) (po pm:Option Addr):Prop:=match r with
 | some (x,m)=>po=some ⟨B x,0,none⟩/\MPtr A w (.pointer pm) m
 | none=>pm=none
def MethG (A:Nat->Prop) (B:Nat->Nat) (w0:World) (r:Option (Nat × Mth)) (w:World) (e:Ending) (w':World):Prop:=∃ po pm,e=.returned (.tuple #[.pointer po,.pointer pm])/\MethP A B w0 r po pm/\Below w.heap.size w w'
theorem findSome_take {α β:Type} {f:α->Option β} {l:List α} {k:Nat} {x:α} {y:β} (hx:l[k]? = some x) (hn:∀ j z,j<k->l[j]? = some z->f z=none) (hy:f x=some y):l.findSome? f=some y:=by
 induction l generalizing k with
 | nil=>simp at hx
 | cons a l ih=>
  cases k with
  | zero=>
   simp at hx
   subst hx;rw [List.findSome?_cons,hy]
  | succ k=>
   have h0:=hn 0 a (by omega) rfl;rw [List.findSome?_cons,h0];exact ih (k:=k) (by simpa using hx) (fun j z hj hz=>hn (j+1) z (by omega) (by simpa using hz))
theorem Seen1.boxes {B:Nat->Nat} {x O Mc:Nat} {po pm:Option Addr} {p:Option Addr} {w w':World} (h:Seen1 B x O Mc (.pointer p) w w') (hO:Box w O #[.pointer po] 94) (hM:Box w Mc #[.pointer pm] 118) (hn:O ≠ Mc) :
  Box w' O #[entV B x] 94/\Box w' Mc #[.pointer p] 118/\Only (fun b=>b=O\/b=Mc) w w':=by
 obtain ⟨w1,hb,rfl⟩:=h;exact ⟨((hO.below hb).set 0 _).set_ne hn 0 _,((hM.below hb).set_ne (Ne.symm hn) 0 _).set 0 _,((Only.ofBelow hb).setCell (Or.inl rfl) _).setCell (Or.inr rfl) _⟩
def MethJ (es:List Ent) (o:Option Nat) (n:List UInt8) (O Mc:Nat) (W:World) (k:Nat) (w':World):Prop:=
 (∃ po,Box w' O #[.pointer po] 94)/\Box w' Mc #[.pointer none] 118/\Only (fun b=>b=O\/b=Mc) W w'/\∀ j x,j<k->(aboveE es o)[j]? = some x->ownM es x n=none
def MethK (A:Nat->Prop) (B:Nat->Nat) (w0:World) (es:List Ent) (o:Option Nat) (n:List UInt8) (O Mc:Nat) (W:World) (w':World):Prop:=
 ∃ po pm,Box w' O #[.pointer po] 94/\Box w' Mc #[.pointer pm] 118/\MethP A B w0 (findM es o n) po pm/\Only (fun b=>b=O\/b=Mc) W w'
theorem meth_above {A:Nat->Prop} {B:Nat->Nat} {T mb:Nat} {es:List Ent} {w0:World} (hT:Tab A w0 T mb B es) (hS:Shape es) (hml:∀ i,(mthsAt es i).length<=9223372036854775807) (o:Option Nat) (ho:∀ i,o=some i->i<es.length) (n:List UInt8)
  (c1 O Mc:Nat) (W:World) (hW:Below w0.heap.size w0 W) (h1:W.cell? ⟨c1,0,none⟩=some (.string (S n))) (hO:Box W O #[.pointer none] 94) (hM:Box W Mc #[.pointer none] 118) (hn:O ≠ Mc) (hc1:c1 ≠ O) (hc2:c1 ≠ Mc) (hO0:w0.heap.size<=O) (hM0:w0.heap.size<=Mc) :
  Calls Tryz.prog 77 #[ptrV B o,.func (.func 134) #[] #[.pointer (some ⟨c1,0,none⟩),.pointer (some ⟨O,0,none⟩),.pointer (some ⟨Mc,0,none⟩)]] W (fun e w'=>∃ b,e=.returned (.bool b)/\MethK A B w0 es o n O Mc W w'):=by
 have hc:=hS.line o ho;have hOl:=hO.lt;have hMl:=hM.lt;have hcl:c1<W.heap.size:=World.block_lt_of_cell? W _ h1;refine (above_any hT hS.len hS.lk _ _ (enters_fn Tryz.func134 (by kernel_rfl) rfl) W.heap.size es.length o (lineE es o) hc (hS.mem hc) (MethJ es o n O Mc W) (fun _=>MethK A B w0 es o n O Mc W) W (Nat.le_refl _)
  (fun k w' h=>hW.trans (h.2.2.1.below hW.size (fun i hi=>by rcases hi with h|h <;> omega))) (fun k w1 w2 h ho=>?_) (fun k x w' hx hj=>?_) ⟨⟨_,hO⟩,hM,Only.refl _ _,fun j x hj=>by omega⟩).mono fun e w' q=>?_
 ·obtain ⟨⟨po,bO⟩,bM,on,hall⟩:=h;exact ⟨⟨po,bO.keep ho (by omega)⟩,bM.keep ho (by omega),on.then ho (fun i hi hlo=>by omega),hall⟩
 ·have hx':(aboveE es o)[k]? = some x:=hx;obtain ⟨⟨po,bO⟩,bM,on,hall⟩:=hj;refine (meth1_any hT x (aboveE_lt hS ho x (List.mem_of_getElem? hx')) n w' (hW.trans (on.below hW.size (fun i hi=>by rcases hi with h|h <;> omega))) (hml x) c1 O Mc po none (on.cell h1 (by rintro (h|h) <;> contradiction)) bO bM hn).mono fun e w'' q=>?_
  obtain ⟨b,he,hy,hno⟩:=q;cases b with
  | true=>
   obtain ⟨m,p,h2,h3,h4⟩:=hy rfl;have h3':=h3;obtain ⟨bb,oo,v,rfl,_⟩:=h3;obtain ⟨q1,q2,q3⟩:=h4.boxes bO bM hn;refine ⟨⟨true,he,fun _=>⟨_,_,q1,q2,?_,on.trans q3⟩,(fun h=>by cases h)⟩,q3.mono (fun i _ hi=>by rcases hi with h|h <;> (show i<W.heap.size;omega))⟩;have hf:findM es o n=some (x,m):=findSome_take hx' (fun j z hj hz=>by rw [hall j z hj hz];rfl) (by rw [h2];rfl);rw [hf];exact ⟨rfl,h3'⟩
  | false=>
   obtain ⟨h2,h4⟩:=hno rfl;obtain ⟨q1,q2,q3⟩:=h4.boxes bO bM hn;refine ⟨⟨false,he,(fun h=>by cases h),fun _=>⟨⟨_,q1⟩,q2,on.trans q3,fun j z hj hz=>?_⟩⟩,q3.mono (fun i _ hi=>by rcases hi with h|h <;> (show i<W.heap.size;omega))⟩;rcases Nat.lt_or_ge j k with h|h
   ·exact hall j z h hz
   ·obtain rfl:j=k:=by omega
    rw [hx'] at hz;rw [←Option.some.inj hz];exact h2
 ·obtain ⟨b,he,hy,hno⟩:=q;refine ⟨b,he,?_⟩;cases b with
  | true=>
   obtain ⟨_,_,h⟩:=hy rfl;exact h
  | false=>
   obtain ⟨⟨po,bO⟩,bM,on,hall⟩:=hno rfl;refine ⟨po,none,bO,bM,?_,on⟩;have hf:findM es o n=none:=by
    unfold findM;rw [List.findSome?_eq_none_iff];intro x hx;obtain ⟨j,hj⟩:=List.getElem?_of_mem hx;rw [hall j x (List.getElem?_eq_some_iff.1 hj).1 hj];rfl
   rw [hf];exact rfl
theorem meth_any {A:Nat->Prop} {B:Nat->Nat} {T mb:Nat} {es:List Ent} {w0:World} (hT:Tab A w0 T mb B es) (hS:Shape es) (hml:∀ i,(mthsAt es i).length<=9223372036854775807) (o:Option Nat) (ho:∀ i,o=some i->i<es.length) (n:List UInt8)
  (w:World) (hw:Below w0.heap.size w0 w):Calls Tryz.prog 90 #[ptrV B o,.string (S n)] w (MethG A B w0 (findM es o n) w):=by
 have hmf:∀ (fn:Fn) (first cap:Array Value) (w:World),(Instr.makeFunc fn first cap).run Tryz.prog w=.ok (.func fn first cap) w:=fun _ _ _ _=>rfl
 have hW:Below w.heap.size w (((w.alloc (.cells #[.string (S n)] 9)).alloc (.cells #[.pointer none] 94)).alloc (.cells #[.pointer none] 118)):=below_alloc (below_alloc (below_alloc (Below.refl _ _) _) _) _;have x1:=(Box.new w #[.string (S n)] 9).below (w':=((w.alloc (.cells #[.string (S n)] 9)).alloc (.cells #[.pointer none] 94)).alloc (.cells #[.pointer none] 118)) (below_alloc (below_alloc (Below.refl _ _) _) _);have x2:=(Box.new (w.alloc (.cells #[.string (S n)] 9)) #[.pointer none] 94).below (w':=((w.alloc (.cells #[.string (S n)] 9)).alloc (.cells #[.pointer none] 94)).alloc (.cells #[.pointer none] 118)) (below_alloc (Below.refl _ _) _);have x3:=Box.new ((w.alloc (.cells #[.string (S n)] 9)).alloc (.cells #[.pointer none] 94)) #[.pointer none] 118;have s1:(w.alloc (.cells #[.string (S n)] 9)).heap.size=w.heap.size+1:=by simp
 have s2:((w.alloc (.cells #[.string (S n)] 9)).alloc (.cells #[.pointer none] 94)).heap.size=w.heap.size+1+1:=by simp
 rw [s1] at x2;rw [s2] at x3;have hws:=hw.size;have HA:=Hd (meth_above hT hS hml o ho n w.heap.size (w.heap.size+1) (w.heap.size+1+1) _ (hw.trans (hW.mono hw.size)) (x1.cell 0 rfl) x2 x3 (by omega) (by omega) (by omega) (by omega) (by omega));obtain ⟨q,hq⟩:=ptrV_is B o;rw [hq] at HA ⊢;have HW:=Hd hW;unfold MethK at HA;generalize findM es o n=r at HA ⊢;clear hT hS hml ho hw hW x1 x2 x3 s1 s2 hws hq;go_enter Tryz.func90,Tryz.ntmps90
 go_upto_region 1 with fail
 go_wp2_with fail
 refine HA.out.mono ?_;rintro e w1 ⟨b,rfl,po,pm,hO,hM,hP,hon⟩;have HP:=Hd hP;have HO:=Hd hO;have HM:=Hd hM;have HB:Hid (Below w.heap.size w w1):=Hd (HW.out.trans (hon.below (by have:=HW.out.size;omega) (fun i hi=>by rcases hi with h|h <;> omega)));have o0:=hO.cell 0 rfl;have o1:=hO.free 0;have m0:=hM.cell 0 rfl;have m1:=hM.free 0;clear hP hO hM hon HA HW
 go_upto_region 2 with fail
 go_region
 all_goals
  clear o0 o1 m0 m1;have y1:=((HO.out.set 0 (.pointer po)).set_ne (I:=w.heap.size+1+1) (by omega) 0 (.pointer pm)).cell 0 rfl;have y2:=((HM.out.set_ne (I:=w.heap.size+1) (by omega) 0 (.pointer po)).set 0 (.pointer pm)).cell 0 rfl;have hB:Below w.heap.size w (((w1.setCell ⟨w.heap.size+1,0,none⟩ (.pointer po)).setCell ⟨w.heap.size+1+1,0,none⟩ (.pointer pm)).drew):=
   below_drew ((HB.out.setCell (by show w.heap.size<=w.heap.size+1;omega) _).setCell (by show w.heap.size<=w.heap.size+1+1;omega) _)
  have HBB:=Hd hB;clear hB;go_wp2;refine bodyPost_ret (v:=.tuple #[.pointer po,.pointer pm]) ?_ rfl ⟨po,pm,rfl,HP.out,HBB.out⟩;have l1:=load_ptr Tryz.underlying94 (w:=(((w1.setCell ⟨w.heap.size+1,0,none⟩ (.pointer po)).setCell ⟨w.heap.size+1+1,0,none⟩ (.pointer pm)).drew)) y1;have l2:=load_ptr Tryz.underlying118 (w:=(((w1.setCell ⟨w.heap.size+1,0,none⟩ (.pointer po)).setCell ⟨w.heap.size+1+1,0,none⟩ (.pointer pm)).drew)) y2;simp only [results,Tryz.results90];simp [asAddr,l1,l2]
def Cloned {α:Type} (n:Nat) (R:ElemRel α) (A:Nat->Prop) (lo:Nat) (w:World) (v:Value) (l:List α):Prop:=
 (l=[]/\∃ ao c,v=.slice ao 0 c)\/
 ∃ g c,v=.slice (some ⟨g,0,none⟩) l.length c/\lo<=g/\g<w.heap.size/\l.length<=c/\c<=9223372036854775807/\(∀ m,w.frozen? ⟨g,m,none⟩=false)/\
  ∀ (j:Nat) (x:α),l[j]? = some x->∃ u,R A w x u/\u.cells.size=n/\∀ (i:Nat) c,u.cells[i]? = some c->w.cell? ⟨g,j * n+i,none⟩=some c
section
variable {P:Program} {w:World}
theorem clone_run {α:Type} {n:Nat} (hn:0<n) {R:ElemRel α} (hR:Stays R) {A:Nat->Prop} {sv:Value} {l:List α} (hone:∀ x v,R A w x v->∀ u ∈ v.cells.toList,u.oneCell'=true) (t ty e:TypeId) (i:TypeInfo) (z:Value) (bytes:Nat)
  (ht:P.underlying t=some (.slice e)) (hi:P.info? e=some i) (hz:i.zero=some z) (hsize:i.size=n) (hby:i.bytes=bytes) (hzs:z.cells.size=n) (hs:Src n R A w sv l) (hlim:l.length * bytes<=140737488355328) (h63:l.length<=9223372036854775807) :
  ∃ v' w',(Builtin.append_ #[t,t] ty #[.slice (some ⟨w.heap.size,0,none⟩) 0 0,sv]).run P (w.alloc (.cells #[] e))=.ok v' w'/\Cloned n R A w.heap.size w' v' l/\Below w.heap.size w w':=by
 have hb0:Below w.heap.size w (w.alloc (.cells #[] e)):=(Below.refl _ w).alloc (Nat.le_refl _) _;have hown:(w.alloc (.cells #[] e)).ownsRow 0 e n (.slice (some ⟨w.heap.size,0,none⟩) 0 0) 0 []:=
  ⟨by simp,.inr ⟨w.heap.size,0,#[],rfl,Nat.zero_le _,heap_alloc_new w _,Nat.le_refl _,Nat.zero_le _,by simp,by simp⟩⟩
 rcases hs with ⟨ao,cp,rfl,rfl⟩|⟨b,o,cap,rfl,_,hc⟩
 ·exact ⟨_,_,run_append_empty _ t ty e i n ht hi _ 0 [] hown ao cp,.inl ⟨rfl,_,_,rfl⟩,hb0⟩
 ·have ho:=Only.ofBelow (S:=fun _=>False) hb0;obtain ⟨us,hul,hu⟩:=Src.vals hc;have husz:∀ u ∈ us,u.cells.size=n:=fun u hm=>by
   obtain ⟨k,hk⟩:=List.getElem?_of_mem hm;obtain ⟨_,_,_,h,_⟩:=hu k u hk;exact h
  have hcl:(cellsL us).length=l.length * n:=by rw [cellsL_len us husz,hul]
  have hnews:=Src.cells us hu hn;have h1:∀ u ∈ cellsL us,u.oneCell'=true:=fun q hq=>by
   unfold cellsL at hq;obtain ⟨u,hum,hqu⟩:=List.mem_flatMap.1 hq;obtain ⟨k,hk⟩:=List.getElem?_of_mem hum;obtain ⟨x,_,hx,_,_⟩:=hu k u hk;exact hone x u hx q hqu
  obtain ⟨v',w',hr,h2,h3⟩:=run_append_fine (P:=P) (w.alloc (.cells #[] e)) t ty e i z n bytes ht hi hz hsize hby hzs hn _ 0 [] hown ⟨b,o,none⟩ l.length cap (cellsL us) hcl (fun j q hq=>ho.cell (hnews j q hq) id) h1 (by unfold maxLen;omega) (by rw [Nat.zero_add];exact hlim);rw [Nat.zero_add,List.nil_append] at h2;have hbw:Below w.heap.size w w':=hb0.trans (h3.only.below hb0.size (fun k hk=>by simp [Value.ownBlock] at hk;omega));refine ⟨v',w',hr,?_,hbw⟩;have hlo:∀ g,v'.ownBlock=some g->w.heap.size<=g:=fun g hg=>by
   rcases h3.came with e1|e1
   ·rw [e1] at hg;simp [Value.ownBlock] at hg
    omega
   ·have h5:=e1 g hg;have h6:=hb0.size;omega
  rcases h2.2 with ⟨hv,h0⟩|⟨g,c,cur,rfl,_,hg,hnc,hcm,hcs,htake⟩
  ·exact .inl ⟨List.length_eq_zero_iff.1 h0,_,_,hv⟩
  ·refine .inr ⟨g,c,rfl,hlo g rfl,lt_of_block hg,hnc,hcm,fun m=>?_,fun j x hx=>?_⟩
   ·unfold World.frozen?;rw [hg];simp
   ·have hj:j<l.length:=(List.getElem?_eq_some_iff.1 hx).1;have huk:us[j]? = some us[j]:=List.getElem?_eq_getElem (by omega);obtain ⟨y,hy,hyR,hys,_⟩:=hu j _ huk;rw [hx] at hy;obtain rfl:=Option.some.inj hy;refine ⟨us[j],hR.keep hyR (Only.ofBelow (S:=fun _=>False) hbw) (fun _ _=>id),hys,fun q c hq=>?_⟩;have hqn:=cells_lt hys hq;have:=h2.cells (g:=g) rfl (j * n+q) c (by rw [cellsL_at us j q _ husz huk hqn];exact hq);rw [Addr.add_mid,Nat.zero_add] at this;exact this
end
noncomputable def setRow (w:World) (g o:Nat):List Value->World
 | []=>w
 | c :: r=>setRow (w.setCell ⟨g,o,none⟩ c) g (o+1) r
theorem setRow_only {S:Nat->Prop} {a:World}:∀ (vs:List Value) (w:World) (g o:Nat),Only S a w->S g->Only S a (setRow w g o vs)
 | [],_,_,_,h,_=>h
 | c :: r,_,g,o,h,hg=>setRow_only r _ g (o+1) (h.setCell (p:=⟨g,o,none⟩) hg c) hg
theorem setRow_far:∀ (vs:List Value) (w:World) (g o m:Nat) (v:Value),w.cell? ⟨g,m,none⟩=some v->(m<o\/o+vs.length<=m)->(setRow w g o vs).cell? ⟨g,m,none⟩=some v
 | [],_,_,_,_,_,h,_=>h
 | c :: r,w,g,o,m,v,h,hm=>by
  unfold setRow;simp only [List.length_cons] at hm;refine setRow_far r _ g (o+1) m v ?_ (by omega);rw [World.cell?_setCell_other w ⟨g,o,none⟩ ⟨g,m,none⟩ c (by intro e;injection e with _ e;omega)];exact h
theorem setRow_at:∀ (vs:List Value) (w:World) (g o i:Nat) (u:Value),(∀ m,m<vs.length->∃ v,w.cell? ⟨g,o+m,none⟩=some v)->vs[i]? = some u->(setRow w g o vs).cell? ⟨g,o+i,none⟩=some u
 | [],_,_,_,i,_,_,hi=>by simp at hi
 | c :: r,w,g,o,0,u,hw,hi=>by
  simp at hi
  subst hi;unfold setRow;refine setRow_far r _ g (o+1) (o+0) c ?_ (by omega);obtain ⟨v,hv⟩:=hw 0 (by simp);exact World.cell?_setCell_same w _ _ hv
 | c :: r,w,g,o,i+1,u,hw,hi=>by
  unfold setRow;have:=setRow_at r (w.setCell ⟨g,o,none⟩ c) g (o+1) i u (fun m hm=>by
   obtain ⟨v,hv⟩:=hw (m+1) (by simp;omega);refine ⟨v,?_⟩;rw [World.cell?_setCell_other w ⟨g,o,none⟩ ⟨g,o+1+m,none⟩ c (by intro e;injection e with _ e;omega),show o+1+m=o+(m+1) from by omega];exact hv) (by simpa using hi)
  rw [show o+(i+1)=o+1+i from by omega];exact this
theorem setRow_frozen:∀ (vs:List Value) (w:World) (g o:Nat) (a:Addr),(setRow w g o vs).frozen? a=w.frozen? a
 | [],_,_,_,_=>rfl
 | c :: r,w,g,o,a=>by
  unfold setRow;rw [setRow_frozen r _ g (o+1) a];exact World.frozen?_setCell _ _ _ _
structure CInv {α:Type} (n:Nat) (R:ElemRel α) (lo g k:Nat) (w:World) (l:List α):Prop where
 lt:g<w.heap.size
 ge:lo<=g
 free:∀ m,w.frozen? ⟨g,m,none⟩=false
 at_:∀ (j:Nat) (x:α),l[j]? = some x->∃ u,(if j<k then R (fun i=>lo<=i/\i ≠ g) w x u else R (fun i=>i<lo) w x u)/\u.cells.size=n/\∀ (i:Nat) c,u.cells[i]? = some c->w.cell? ⟨g,j * n+i,none⟩=some c
theorem CInv.only {α:Type} {n:Nat} {R:ElemRel α} (hR:Stays R) {lo g k:Nat} {w w':World} {l:List α} (h:CInv n R lo g k w l) (hb:Below w.heap.size w w'):CInv n R lo g k w' l:=by
 have ho:=Only.ofBelow (S:=fun _=>False) hb;refine ⟨Nat.lt_of_lt_of_le h.lt hb.size,h.ge,fun m=>?_,fun j x hx=>?_⟩
 ·rw [hb.frozen (p:=⟨g,m,none⟩) h.lt];exact h.free m
 ·obtain ⟨u,h1,h2,h3⟩:=h.at_ j x hx;refine ⟨u,?_,h2,fun i c hc=>ho.cell (h3 i c hc) id⟩;split
  ·rename_i hjk
   rw [if_pos hjk] at h1;exact hR.keep h1 ho (fun _ _=>id)
  ·rename_i hjk
   rw [if_neg hjk] at h1;exact hR.keep h1 ho (fun _ _=>id)
theorem CInv.elem {α:Type} {n:Nat} {R:ElemRel α} {lo g k:Nat} {w:World} {l:List α} {x:α} (h:CInv n R lo g k w l) (hx:l[k]? = some x):∃ u,R (fun i=>i<lo) w x u/\u.cells.size=n/\∀ (i:Nat) c,u.cells[i]? = some c->w.cell? ⟨g,k * n+i,none⟩=some c:=by
 obtain ⟨u,h1,h2,h3⟩:=h.at_ k x hx;rw [if_neg (Nat.lt_irrefl k)] at h1;exact ⟨u,h1,h2,h3⟩
theorem CInv.store {α:Type} {n:Nat} {R:ElemRel α} (hR:Stays R) {lo g k:Nat} {w w':World} {l:List α} {x:α} {u:Value} (h:CInv n R lo g k w l) (hb:Below w.heap.size w w') (hx:l[k]? = some x)
  (hu:R (fun i=>w.heap.size<=i) w' x u) (hs:u.cells.size=n):CInv n R lo g (k+1) (setRow w' g (k * n) u.cells.toList) l:=by
 have h':=h.only hR hb;have ho:Only (fun i=>i=g) w' (setRow w' g (k * n) u.cells.toList):=setRow_only _ _ _ _ (Only.refl _ _) rfl;have hlen:u.cells.toList.length=n:=by rw [Array.length_toList,hs]
 refine ⟨Nat.lt_of_lt_of_le h'.lt ho.size,h.ge,fun m=>by rw [setRow_frozen];exact h'.free m,fun j y hy=>?_⟩;obtain ⟨v,h1,h2,h3⟩:=h'.at_ j y hy;by_cases hjk:j=k
 ·subst hjk;rw [hx] at hy;obtain rfl:=Option.some.inj hy;refine ⟨u,?_,hs,fun i c hc=>?_⟩
  ·rw [if_pos (Nat.lt_succ_self j)];have hlt:=h.lt;have hlo:=h.ge;exact hR.keep (hR.mono hu (fun i _ hi=>show lo<=i/\i ≠ g from ⟨by omega,by omega⟩)) ho (fun i hi=>hi.2)
  ·refine setRow_at u.cells.toList w' g (j * n) i c (fun m hm=>?_) (by rw [Array.getElem?_toList];exact hc);have hm':m<v.cells.size:=by rw [h2];omega
   exact ⟨_,h3 m v.cells[m] (Array.getElem?_eq_getElem hm')⟩
 ·refine ⟨v,?_,h2,fun i c hc=>?_⟩
  ·by_cases hj:j<k
   ·rw [if_pos hj] at h1;rw [if_pos (by omega)];exact hR.keep h1 ho (fun i hi=>hi.2)
   ·rw [if_neg hj] at h1;rw [if_neg (by omega)];have hlo:=h.ge;exact hR.keep h1 ho (fun i (hi:i<lo) (q:i=g)=>by omega)
  ·have hin:=cells_lt h2 hc;refine setRow_far _ _ _ _ _ _ (h3 i c hc) ?_;rw [hlen];rcases Nat.lt_or_ge j k with hj|hj
   ·left
    have:=Nat.mul_le_mul_right n (show j+1<=k by omega);rw [Nat.succ_mul] at this;omega
   ·right
    have:=Nat.mul_le_mul_right n (show k+1<=j by omega);rw [Nat.succ_mul] at this;omega
theorem CInv.done {α:Type} {n:Nat} {R:ElemRel α} (hR:Stays R) {lo g c:Nat} {w:World} {l:List α} (h:CInv n R lo g l.length w l) (h1:l.length<=c) (h2:c<=9223372036854775807):Src n R (fun i=>lo<=i) w (.slice (some ⟨g,0,none⟩) l.length c) l:=by
 refine .inr ⟨g,0,c,rfl,⟨h.ge,h.lt,h1,h2⟩,fun k x hx=>?_⟩;obtain ⟨u,q1,q2,q3⟩:=h.at_ k x hx;rw [if_pos (List.getElem?_eq_some_iff.1 hx).1] at q1;exact ⟨u,hR.mono q1 (fun i _ hi=>hi.1),q2,fun j v hv=>by rw [Nat.zero_add];exact q3 j v hv⟩
theorem Cloned.inv {α:Type} {n:Nat} {R:ElemRel α} {lo g:Nat} {w:World} {l:List α} (hlo:lo<=g) (hlt:g<w.heap.size) (hf:∀ m,w.frozen? ⟨g,m,none⟩=false)
  (h:∀ (j:Nat) (x:α),l[j]? = some x->∃ u,R (fun i=>i<lo) w x u/\u.cells.size=n/\∀ (i:Nat) c,u.cells[i]? = some c->w.cell? ⟨g,j * n+i,none⟩=some c):CInv n R lo g 0 w l:=
 ⟨hlt,hlo,hf,fun j x hx=>by obtain ⟨u,h1,h2⟩:=h j x hx;exact ⟨u,by rw [if_neg (Nat.not_lt_zero j)];exact h1,h2⟩⟩
end Go.Proofs.YtpincofjopmaaaaGreatDoor
