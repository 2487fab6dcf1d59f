/- laws -/
import Derived.Test.YtggcdinoflchjaaGreatDoorK33
set_option maxRecDepth 100000
set_option maxHeartbeats 16000000
namespace Go.Proofs.YtggcdinoflchjaaGreatDoor
open Go.RowKit
theorem Zlq {A:Nat->Prop} (c:Cls) (v:Value) (w:World) (hv:ClsR A w c v) (hfit:c.Fit) (hn1:c.like.length<=32) (hn2:c.flds.length<=32) (hn3:c.mths.length<=32) :
  Calls Tryz.prog 101 #[v] w (Said c.names w):=by
 obtain ⟨lv,fv,mv,rfl,hl,hf,hm⟩:=hv;obtain ⟨lo,lc,rfl⟩:=hl.shape;obtain ⟨fo,fc,rfl⟩:=hf.shape;obtain ⟨mo,mc,rfl⟩:=hm.shape;have hb0:Below w.heap.size w (w.alloc (.cells #[.string (S c.name),.string (S c.sup),.slice lo c.like.length lc,.bool c.itf,.bool c.abs,.bool c.fin,.slice fo c.flds.length fc,.slice mo c.mths.length mc] 87)):=(Yab _ w).alloc (Yac _) _;have HB0:=Hd hb0;have HBX:=Hd (Box.new w #[.string (S c.name),.string (S c.sup),.slice lo c.like.length lc,.bool c.itf,.bool c.abs,.bool c.fin,.slice fo c.flds.length fc,.slice mo c.mths.length mc] 87);have HCON:Hid (∀ sv W,Src 1 (SlR 1 StrR) Anyw W sv [[c.sup],c.like]->Calls Tryz.prog 148 #[sv] W (Zpk 9 ((c.sup :: c.like).map strV) W)):=Hd (fun sv W h=>by
  have:=Zj4 [[c.sup],c.like] sv W h (by simp;omega) (by simp)
  simpa using this)
 have HLK:=Hd (StrR.st.any hl);have HNM:Hid (∀ W,Below (w.alloc (.cells #[.string (S c.name),.string (S c.sup),.slice lo c.like.length lc,.bool c.itf,.bool c.abs,.bool c.fin,.slice fo c.flds.length fc,.slice mo c.mths.length mc] 87)).heap.size (w.alloc (.cells #[.string (S c.name),.string (S c.sup),.slice lo c.like.length lc,.bool c.itf,.bool c.abs,.bool c.fin,.slice fo c.flds.length fc,.slice mo c.mths.length mc] 87)) W->Calls Tryz.prog 149 #[.string (S c.name)] W (Said (Zal c.name) W)):=Hd (fun W hW=>
  ZbM c.name W hfit.name)
 have HAL:Hid (∀ sv W,Src 1 StrR Anyw W sv (c.sup :: c.like)->Calls Tryz.prog 150 #[sv,.func (.func 149) #[] #[]] W (Said ((c.sup :: c.like).all Zal) W)):=Hd (fun sv W h=>
  ZlE (A:=Anyw) 149 #[] Zal (c.sup :: c.like) _ _ (Zai Tryz.func149 (by kernel_rfl) rfl) h (fun k x u w' hx _ hu=>by
   obtain rfl:=hu;exact ZbM x w' (by rcases Yav.1 (Yaf hx) with e|e;(rw [e];exact hfit.sup);exact hfit.like x e)) (by rw [YaI];omega))
 have HCT:Hid (∀ sv W,Src 1 StrR Anyw W sv (c.sup :: c.like)->Calls Tryz.prog 30 #[sv,.string (S c.name)] W (Said ((c.sup :: c.like).any fun y=>y == c.name) W)):=Hd (fun sv W h=>
  ZeB (c.sup :: c.like) c.name sv W h (by rw [YaI];omega))
 have HD1:Hid (∀ W,Below (w.alloc (.cells #[.string (S c.name),.string (S c.sup),.slice lo c.like.length lc,.bool c.itf,.bool c.abs,.bool c.fin,.slice fo c.flds.length fc,.slice mo c.mths.length mc] 87)).heap.size (w.alloc (.cells #[.string (S c.name),.string (S c.sup),.slice lo c.like.length lc,.bool c.itf,.bool c.abs,.bool c.fin,.slice fo c.flds.length fc,.slice mo c.mths.length mc] 87)) W->Calls Tryz.prog 151 #[.slice lo c.like.length lc,.func (.func 152) #[] #[]] W (Said (ZbB c.like) W)):=Hd (fun W hW=>
  by
   have q:=Zoh (A:=A) 152 #[] id c.like _ _ (Zai Tryz.func152 (by kernel_rfl) rfl) (StrR.st.below (StrR.st.below hl hb0) hW) (fun x u w' _ hu=>ZpZ x u w' hu) (by omega);rw [List.map_id] at q;exact q)
 have HD2:Hid (∀ W,Below (w.alloc (.cells #[.string (S c.name),.string (S c.sup),.slice lo c.like.length lc,.bool c.itf,.bool c.abs,.bool c.fin,.slice fo c.flds.length fc,.slice mo c.mths.length mc] 87)).heap.size (w.alloc (.cells #[.string (S c.name),.string (S c.sup),.slice lo c.like.length lc,.bool c.itf,.bool c.abs,.bool c.fin,.slice fo c.flds.length fc,.slice mo c.mths.length mc] 87)) W->Calls Tryz.prog 153 #[.slice fo c.flds.length fc,.func (.func 154) #[] #[]] W (Said (ZbB (c.flds.map Fld.name)) W)):=Hd (fun W hW=>
  Zof (A:=A) 154 #[] Fld.name c.flds _ _ (Zai Tryz.func154 (by kernel_rfl) rfl) (FldR.st.below (FldR.st.below hf hb0) hW) (fun x u w' _ hu=>Zp0 x u w' hu) (by omega))
 have HD3:Hid (∀ W,Below (w.alloc (.cells #[.string (S c.name),.string (S c.sup),.slice lo c.like.length lc,.bool c.itf,.bool c.abs,.bool c.fin,.slice fo c.flds.length fc,.slice mo c.mths.length mc] 87)).heap.size (w.alloc (.cells #[.string (S c.name),.string (S c.sup),.slice lo c.like.length lc,.bool c.itf,.bool c.abs,.bool c.fin,.slice fo c.flds.length fc,.slice mo c.mths.length mc] 87)) W->Calls Tryz.prog 155 #[.slice mo c.mths.length mc,.func (.func 156) #[] #[]] W (Said (ZbB (c.mths.map Mth.name)) W)):=Hd (fun W hW=>
  Zog (A:=A) 156 #[] Mth.name c.mths _ _ (Zai Tryz.func156 (by kernel_rfl) rfl) (MthR.st.below (MthR.st.below hm hb0) hW) (fun x u w' _ hu=>Zp1 x u w' hu) (by omega))
 unfold Cls.names;clear hl hf hm hfit hb0 hn1 hn2 hn3;generalize Zal c.name=a1 at HNM ⊢;generalize (c.sup :: c.like).all Zal=a2 at HAL ⊢;generalize ((c.sup :: c.like).any fun y=>y == c.name)=a3 at HCT ⊢;generalize ZbB c.like=a4 at HD1 ⊢;generalize ZbB (c.flds.map Fld.name)=a5 at HD2 ⊢;generalize ZbB (c.mths.map Mth.name)=a6 at HD3 ⊢;go_enter Tryz.func101,Tryz.ntmps101
 go_wp2_with fail
 have hb1:Below (w.alloc (.cells #[.string (S c.name),.string (S c.sup),.slice lo c.like.length lc,.bool c.itf,.bool c.abs,.bool c.fin,.slice fo c.flds.length fc,.slice mo c.mths.length mc] 87)).heap.size (w.alloc (.cells #[.string (S c.name),.string (S c.sup),.slice lo c.like.length lc,.bool c.itf,.bool c.abs,.bool c.fin,.slice fo c.flds.length fc,.slice mo c.mths.length mc] 87)) ((w.alloc (.cells #[.string (S c.name),.string (S c.sup),.slice lo c.like.length lc,.bool c.itf,.bool c.abs,.bool c.fin,.slice fo c.flds.length fc,.slice mo c.mths.length mc] 87)).alloc (.cells #[.string (S c.sup)] 9)):=(Yab _ _).alloc (Yac _) _;have hsup:=Box.new (w.alloc (.cells #[.string (S c.name),.string (S c.sup),.slice lo c.like.length lc,.bool c.itf,.bool c.abs,.bool c.fin,.slice fo c.flds.length fc,.slice mo c.mths.length mc] 87)) #[.string (S c.sup)] 9;have hb2:Below (w.alloc (.cells #[.string (S c.name),.string (S c.sup),.slice lo c.like.length lc,.bool c.itf,.bool c.abs,.bool c.fin,.slice fo c.flds.length fc,.slice mo c.mths.length mc] 87)).heap.size (w.alloc (.cells #[.string (S c.name),.string (S c.sup),.slice lo c.like.length lc,.bool c.itf,.bool c.abs,.bool c.fin,.slice fo c.flds.length fc,.slice mo c.mths.length mc] 87)) (((w.alloc (.cells #[.string (S c.name),.string (S c.sup),.slice lo c.like.length lc,.bool c.itf,.bool c.abs,.bool c.fin,.slice fo c.flds.length fc,.slice mo c.mths.length mc] 87)).alloc (.cells #[.string (S c.sup)] 9)).alloc (.cells #[.slice (some ⟨w.heap.size+1,0,none⟩) 1 1,.slice lo c.like.length lc] 22)):=hb1.alloc hb1.size _;have hsup2:=hsup.below (w':=((w.alloc (.cells #[.string (S c.name),.string (S c.sup),.slice lo c.like.length lc,.bool c.itf,.bool c.abs,.bool c.fin,.slice fo c.flds.length fc,.slice mo c.mths.length mc] 87)).alloc (.cells #[.string (S c.sup)] 9)).alloc (.cells #[.slice (some ⟨w.heap.size+1,0,none⟩) 1 1,.slice lo c.like.length lc] 22)) ((Yab _ _).alloc (Yac _) _);have hnew:=Box.new ((w.alloc (.cells #[.string (S c.name),.string (S c.sup),.slice lo c.like.length lc,.bool c.itf,.bool c.abs,.bool c.fin,.slice fo c.flds.length fc,.slice mo c.mths.length mc] 87)).alloc (.cells #[.string (S c.sup)] 9)) #[.slice (some ⟨w.heap.size+1,0,none⟩) 1 1,.slice lo c.like.length lc] 22;have hlk2:=StrR.st.below HLK.o (HB0.o.trans (hb2.mono HB0.o.size));generalize hW2:((w.alloc (.cells #[.string (S c.name),.string (S c.sup),.slice lo c.like.length lc,.bool c.itf,.bool c.abs,.bool c.fin,.slice fo c.flds.length fc,.slice mo c.mths.length mc] 87)).alloc (.cells #[.string (S c.sup)] 9)).alloc (.cells #[.slice (some ⟨w.heap.size+1,0,none⟩) 1 1,.slice lo c.like.length lc] 22)=W2 at *;simp only [World.size_alloc] at hsup hsup2 hnew;refine (HCON.o _ W2 ?src).mono ?_
 case src=>
  refine .inr ⟨w.heap.size+1+1,0,2,rfl,⟨trivial,hnew.lt,Yac _,by decide⟩,fun k x hx=>?_⟩
  match k,hx with
  | 0,hx=>
   obtain rfl:[c.sup]=x:=by simpa using hx
   refine ⟨.slice (some ⟨w.heap.size+1,0,none⟩) 1 1,.inr ⟨w.heap.size+1,0,1,rfl,⟨trivial,hsup2.lt,Yac _,by decide⟩,fun i y hy=>?_⟩,rfl,fun j u hj=>?_⟩
   ·match i,hy with
    | 0,hy=>
     obtain rfl:c.sup=y:=by simpa using hy
     refine ⟨_,rfl,rfl,fun j u hj=>?_⟩;have hj0:=ZcR (n:=1) rfl hj;obtain rfl:j=0:=by omega
     obtain rfl:strV c.sup=u:=by simpa [strV,Value.cells] using hj
     exact hsup2.cell 0 rfl
    | i+1,hy=>simp at hy
   ·have hj0:=ZcR (n:=1) rfl hj;obtain rfl:j=0:=by omega
    obtain rfl:Value.slice (some ⟨w.heap.size+1,0,none⟩) 1 1=u:=by simpa [Value.cells] using hj
    exact hnew.cell 0 rfl
  | 1,hx=>
   obtain rfl:c.like=x:=by simpa using hx
   refine ⟨.slice lo c.like.length lc,hlk2,rfl,fun j u hj=>?_⟩;have hj0:=ZcR (n:=1) rfl hj;obtain rfl:j=0:=by omega
   obtain rfl:Value.slice lo c.like.length lc=u:=by simpa [Value.cells] using hj
   exact hnew.cell 1 rfl
  | k+2,hx=>simp at hx
 rintro e w3 ⟨v3,rfl,hown,_,hb3⟩;obtain ⟨ao3,m3,c3,hv3⟩:=ZdY hown;have hs3:=Zlh (f:=strV) (fun _=>rfl) hown;subst hv3;have HS3:=Hd hs3;have hb4:Below (w.alloc (.cells #[.string (S c.name),.string (S c.sup),.slice lo c.like.length lc,.bool c.itf,.bool c.abs,.bool c.fin,.slice fo c.flds.length fc,.slice mo c.mths.length mc] 87)).heap.size (w.alloc (.cells #[.string (S c.name),.string (S c.sup),.slice lo c.like.length lc,.bool c.itf,.bool c.abs,.bool c.fin,.slice fo c.flds.length fc,.slice mo c.mths.length mc] 87)) w3:=hb2.trans (hb3.mono hb2.size);have HB3:=Hd hb4;have HC3:=Hd (HB0.o.trans (hb4.mono HB0.o.size));clear hs3 hown hb3 hb4 hb2 hb1 hsup hsup2 hnew hlk2 hW2;have q0:=(HBX.o.below HB3.o).cell 0 rfl
 go_wp2_with fail
 refine (HNM.o _ HB3.o).mono ?_;rintro e w4 ⟨rfl,hb⟩;have HB4:=Hd (HB3.o.trans (hb.mono HB3.o.size));have HC4:=Hd (HC3.o.trans (hb.mono HC3.o.size));have HS4:=Hd (StrR.st.below HS3.o hb);clear hb q0;cases a1
 case false=>
  go_wp2;go_ret;exact ⟨rfl,HC4.o⟩
 have q0:=(HBX.o.below HB4.o).cell 0 rfl
 go_wp2_with fail
 refine (HAL.o _ _ HS4.o).mono ?_;rintro e w5 ⟨rfl,hb⟩;have HB5:=Hd (HB4.o.trans (hb.mono HB4.o.size));have HC5:=Hd (HC4.o.trans (hb.mono HC4.o.size));have HS5:=Hd (StrR.st.below HS4.o hb);clear hb q0;cases a2
 case false=>
  go_wp2;go_ret;exact ⟨rfl,HC5.o⟩
 have q0:=(HBX.o.below HB5.o).cell 0 rfl
 go_wp2_with fail
 refine (HCT.o _ _ HS5.o).mono ?_;rintro e w6 ⟨rfl,hb⟩;have HB6:=Hd (HB5.o.trans (hb.mono HB5.o.size));have HC6:=Hd (HC5.o.trans (hb.mono HC5.o.size));clear hb q0;cases a3
 case true=>
  go_wp2;go_ret;exact ⟨rfl,HC6.o⟩
 have q2:=(HBX.o.below HB6.o).cell 2 rfl
 go_wp2_with fail
 refine (HD1.o _ HB6.o).mono ?_;rintro e w7 ⟨rfl,hb⟩;have HB7:=Hd (HB6.o.trans (hb.mono HB6.o.size));have HC7:=Hd (HC6.o.trans (hb.mono HC6.o.size));clear hb q2;cases a4
 case false=>
  go_wp2;go_ret;exact ⟨rfl,HC7.o⟩
 have q6:=(HBX.o.below HB7.o).cell 6 rfl
 go_wp2_with fail
 refine (HD2.o _ HB7.o).mono ?_;rintro e w8 ⟨rfl,hb⟩;have HB8:=Hd (HB7.o.trans (hb.mono HB7.o.size));have HC8:=Hd (HC7.o.trans (hb.mono HC7.o.size));clear hb q6;cases a5
 case false=>
  go_wp2;go_ret;exact ⟨rfl,HC8.o⟩
 have q7:=(HBX.o.below HB8.o).cell 7 rfl
 go_wp2_with fail
 refine (HD3.o _ HB8.o).mono ?_;rintro e w9 ⟨rfl,hb⟩;have HB9:=Hd (HB8.o.trans (hb.mono HB8.o.size));have HC9:=Hd (HC8.o.trans (hb.mono HC8.o.size));clear hb q7;go_wp2;go_ret;exact ⟨rfl,HC9.o⟩
theorem ZjS {A:Nat->Prop} (c:Cls) (v:Value) (w:World) (hv:ClsR A w c v) (hT:CT w) (hfit:c.Fit) :
  Calls Tryz.prog 43 #[v] w fun e w'=>e=.returned (.int .i64 (c.e:Nat))/\Below w.heap.size w w':=by
 have hv0:=hv;obtain ⟨lv,fv,mv,rfl,hl,hf,hm⟩:=hv;obtain ⟨lo,lc,rfl⟩:=hl.shape;obtain ⟨fo,fc,rfl⟩:=hf.shape;obtain ⟨mo,mc,rfl⟩:=hm.shape;have hb0:Below w.heap.size w (w.alloc (.cells #[.string (S c.name),.string (S c.sup),.slice lo c.like.length lc,.bool c.itf,.bool c.abs,.bool c.fin,.slice fo c.flds.length fc,.slice mo c.mths.length mc] 87)):=(Yab _ w).alloc (Yac _) _;have HB0:=Hd hb0;have HBX:=Hd (Box.new w #[.string (S c.name),.string (S c.sup),.slice lo c.like.length lc,.bool c.itf,.bool c.abs,.bool c.fin,.slice fo c.flds.length fc,.slice mo c.mths.length mc] 87);have HMN:Hid (∀ W,Below (w.alloc (.cells #[.string (S c.name),.string (S c.sup),.slice lo c.like.length lc,.bool c.itf,.bool c.abs,.bool c.fin,.slice fo c.flds.length fc,.slice mo c.mths.length mc] 87)).heap.size (w.alloc (.cells #[.string (S c.name),.string (S c.sup),.slice lo c.like.length lc,.bool c.itf,.bool c.abs,.bool c.fin,.slice fo c.flds.length fc,.slice mo c.mths.length mc] 87)) W->Calls Tryz.prog 100 #[.agg #[.string (S c.name),.string (S c.sup),.slice lo c.like.length lc,.bool c.itf,.bool c.abs,.bool c.fin,.slice fo c.flds.length fc,.slice mo c.mths.length mc]] W (Said (c.many) W)):=Hd (fun W hW=>ZoD (A:=A) c _ W (ClsR.st.keep (ClsR.st.keep hv0 (Yad (S:=fun _=>False) hb0) (fun _ _=>id)) (Yad (S:=fun _=>False) hW) (fun _ _=>id)));have hcase:c.many=true\/(c.many=false/\c.like.length<=32/\c.flds.length<=32/\c.mths.length<=32):=by
  cases h:c.many
  ·right
   refine ⟨rfl,?_⟩;unfold Cls.many at h;simp only [Ybs,decide_eq_false_iff_not] at h;omega
  ·left;rfl
 rcases hcase with hmany|⟨hmany,hn1,hn2,hn3⟩
 ·have HE:Hid (c.e=51):=Hd (by unfold Cls.e;rw [YaC hmany]);rw [hmany] at HMN;rw [HE.o];clear hl hf hm hv0 hT hfit hb0 hmany;go_enter Tryz.func43,Tryz.ntmps43
  go_wp2_with fail
  refine (HMN.o _ (Yab _ _)).mono ?_;rintro e w1 ⟨rfl,hb1⟩;have HB1:=Hd (HB0.o.trans (hb1.mono HB0.o.size));clear hb1;go_wp2;go_ret;exact ⟨rfl,HB1.o⟩
 have HE:Hid (c.e=if c.fine then 0 else 50):=Hd (by unfold Cls.e;rw [hmany];rfl);rw [HE.o];rw [hmany] at HMN;have HNA:Hid (∀ W,Below (w.alloc (.cells #[.string (S c.name),.string (S c.sup),.slice lo c.like.length lc,.bool c.itf,.bool c.abs,.bool c.fin,.slice fo c.flds.length fc,.slice mo c.mths.length mc] 87)).heap.size (w.alloc (.cells #[.string (S c.name),.string (S c.sup),.slice lo c.like.length lc,.bool c.itf,.bool c.abs,.bool c.fin,.slice fo c.flds.length fc,.slice mo c.mths.length mc] 87)) W->Calls Tryz.prog 101 #[.agg #[.string (S c.name),.string (S c.sup),.slice lo c.like.length lc,.bool c.itf,.bool c.abs,.bool c.fin,.slice fo c.flds.length fc,.slice mo c.mths.length mc]] W (Said (c.names) W)):=Hd (fun W hW=>Zlq (A:=A) c _ W (ClsR.st.keep (ClsR.st.keep hv0 (Yad (S:=fun _=>False) hb0) (fun _ _=>id)) (Yad (S:=fun _=>False) hW) (fun _ _=>id)) hfit hn1 hn2 hn3);have HSO:Hid (∀ W,Below (w.alloc (.cells #[.string (S c.name),.string (S c.sup),.slice lo c.like.length lc,.bool c.itf,.bool c.abs,.bool c.fin,.slice fo c.flds.length fc,.slice mo c.mths.length mc] 87)).heap.size (w.alloc (.cells #[.string (S c.name),.string (S c.sup),.slice lo c.like.length lc,.bool c.itf,.bool c.abs,.bool c.fin,.slice fo c.flds.length fc,.slice mo c.mths.length mc] 87)) W->Calls Tryz.prog 102 #[.agg #[.string (S c.name),.string (S c.sup),.slice lo c.like.length lc,.bool c.itf,.bool c.abs,.bool c.fin,.slice fo c.flds.length fc,.slice mo c.mths.length mc]] W (Said (c.sort) W)):=Hd (fun W hW=>ZnV (A:=A) c _ W (ClsR.st.keep (ClsR.st.keep hv0 (Yad (S:=fun _=>False) hb0) (fun _ _=>id)) (Yad (S:=fun _=>False) hW) (fun _ _=>id)) hn3);have HFL:Hid (∀ W,Below (w.alloc (.cells #[.string (S c.name),.string (S c.sup),.slice lo c.like.length lc,.bool c.itf,.bool c.abs,.bool c.fin,.slice fo c.flds.length fc,.slice mo c.mths.length mc] 87)).heap.size (w.alloc (.cells #[.string (S c.name),.string (S c.sup),.slice lo c.like.length lc,.bool c.itf,.bool c.abs,.bool c.fin,.slice fo c.flds.length fc,.slice mo c.mths.length mc] 87)) W->Calls Tryz.prog 103 #[.slice fo c.flds.length fc,.func (.func 104) #[] #[]] W (Said (c.flds.all Fld.ok) W)):=Hd (fun W hW=>
  ZpA (A:=A) 104 #[] Fld.ok c.flds _ _ (Zai Tryz.func104 (by kernel_rfl) rfl) (FldR.st.below (FldR.st.below hf hb0) hW) (fun k x u w' hx _ hu=>by
   obtain rfl:=hu;exact Zlm x w' (hfit.flds x (Yaf hx)).1 (hfit.flds x (Yaf hx)).2) (by omega))
 have HML:Hid (∀ W,Below (w.alloc (.cells #[.string (S c.name),.string (S c.sup),.slice lo c.like.length lc,.bool c.itf,.bool c.abs,.bool c.fin,.slice fo c.flds.length fc,.slice mo c.mths.length mc] 87)).heap.size (w.alloc (.cells #[.string (S c.name),.string (S c.sup),.slice lo c.like.length lc,.bool c.itf,.bool c.abs,.bool c.fin,.slice fo c.flds.length fc,.slice mo c.mths.length mc] 87)) W->Calls Tryz.prog 105 #[.slice mo c.mths.length mc,.func (.func 106) #[] #[]] W (Said (c.mths.all Mth.ok) W)):=Hd (fun W hW=>
  ZlD (A:=A) 106 #[] Mth.ok c.mths _ _ (Zai Tryz.func106 (by kernel_rfl) rfl) (MthR.st.below (MthR.st.below hm hb0) hW) (fun k x u w' hx hb' hu=>
   Zjd x u w' hu (((hT.keep hb0).keep hW).keep hb') (hfit.mths x (Yaf hx))) (by omega))
 unfold Cls.fine;clear hl hf hm hv0 hT hfit hb0 hmany hn1 hn2 hn3 HE;generalize c.names=a1 at HNA ⊢;generalize c.sort=a2 at HSO ⊢;generalize c.flds.all Fld.ok=a3 at HFL ⊢;generalize c.mths.all Mth.ok=a4 at HML ⊢;go_enter Tryz.func43,Tryz.ntmps43
 go_wp2_with fail
 refine (HMN.o _ (Yab _ _)).mono ?_;rintro e w1 ⟨rfl,hb⟩;have HB1:=Hd hb;have HC1:=Hd (HB0.o.trans (hb.mono HB0.o.size));clear hb;have q0:=(HBX.o.below HB1.o).cell 0 rfl;have q1:=(HBX.o.below HB1.o).cell 1 rfl;have q2:=(HBX.o.below HB1.o).cell 2 rfl;have q3:=(HBX.o.below HB1.o).cell 3 rfl;have q4:=(HBX.o.below HB1.o).cell 4 rfl;have q5:=(HBX.o.below HB1.o).cell 5 rfl;have q6:=(HBX.o.below HB1.o).cell 6 rfl;have q7:=(HBX.o.below HB1.o).cell 7 rfl
 go_wp2_with fail
 refine (HNA.o _ HB1.o).mono ?_;rintro e w2 ⟨rfl,hb⟩;have HB2:=Hd (HB1.o.trans (hb.mono HB1.o.size));have HC2:=Hd (HC1.o.trans (hb.mono HC1.o.size));clear hb q0 q1 q2 q3 q4 q5 q6 q7;cases a1
 case false=>
  go_wp2;go_ret;exact ⟨rfl,HC2.o⟩
 have q0:=(HBX.o.below HB2.o).cell 0 rfl;have q1:=(HBX.o.below HB2.o).cell 1 rfl;have q2:=(HBX.o.below HB2.o).cell 2 rfl;have q3:=(HBX.o.below HB2.o).cell 3 rfl;have q4:=(HBX.o.below HB2.o).cell 4 rfl;have q5:=(HBX.o.below HB2.o).cell 5 rfl;have q6:=(HBX.o.below HB2.o).cell 6 rfl;have q7:=(HBX.o.below HB2.o).cell 7 rfl
 go_wp2_with fail
 refine (HSO.o _ HB2.o).mono ?_;rintro e w3 ⟨rfl,hb⟩;have HB3:=Hd (HB2.o.trans (hb.mono HB2.o.size));have HC3:=Hd (HC2.o.trans (hb.mono HC2.o.size));clear hb q0 q1 q2 q3 q4 q5 q6 q7;cases a2
 case false=>
  go_wp2;go_ret;exact ⟨rfl,HC3.o⟩
 have q6:=(HBX.o.below HB3.o).cell 6 rfl
 go_wp2_with fail
 refine (HFL.o _ HB3.o).mono ?_;rintro e w4 ⟨rfl,hb⟩;have HB4:=Hd (HB3.o.trans (hb.mono HB3.o.size));have HC4:=Hd (HC3.o.trans (hb.mono HC3.o.size));clear hb q6;cases a3
 case false=>
  go_wp2;go_ret;exact ⟨rfl,HC4.o⟩
 have q7:=(HBX.o.below HB4.o).cell 7 rfl
 go_wp2_with fail
 refine (HML.o _ HB4.o).mono ?_;rintro e w5 ⟨rfl,hb⟩;have HB5:=Hd (HB4.o.trans (hb.mono HB4.o.size));have HC5:=Hd (HC4.o.trans (hb.mono HC4.o.size));clear hb q7;cases a4
 case false=>
  go_wp2;go_ret;exact ⟨rfl,HC5.o⟩
 go_wp2;go_ret;exact ⟨rfl,HC5.o⟩
