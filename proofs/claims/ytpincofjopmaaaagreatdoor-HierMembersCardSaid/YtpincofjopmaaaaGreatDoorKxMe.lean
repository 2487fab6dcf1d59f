/-
  Texts HMethT, HOwn2, HMembersL, HLawsM: laws that the claims lean on.
  Conditions: as each law says.
-/
import Derived.Test.YtpincofjopmaaaaGreatDoorKxMeMa
import Derived.Test.YtpincofjopmaaaaGreatDoorK68
set_option maxRecDepth 100000
set_option maxHeartbeats 16000000
namespace Go.Proofs.YtpincofjopmaaaaGreatDoor
open Go.RowKit
theorem only_step {S:Nat->Prop} {a V W:World} (h:Only S a V) (b:Below V.heap.size V W):Only S a W:=h.trans (Only.ofBelow b)
theorem findM_mem0 {es:List Ent} {o:Option Nat} {n:List UInt8} {r:Nat × Mth} (h:findM es o n=some r):r.1 ∈ aboveE es o/\r.2 ∈ mthsAt es r.1:=by
 unfold findM at h;obtain ⟨l1,a,l2,h1,h2,_⟩:=List.findSome?_eq_some_iff.1 h;obtain ⟨m,h3,h4⟩:=Option.map_eq_some_iff.1 h2;subst h4;refine ⟨by rw [h1];simp,?_⟩;unfold ownM at h3;exact List.mem_of_find?_eq_some h3
def MethT (es:List Ent) (r:Option (Nat × Mth)) (w:World) (e:Ending) (w':World):Prop:=Below w.heap.size w w'/\
 ((r=none/\e=.returned (.tuple #[.string ⟨#[]⟩,mthZ,.bool false]))\/∃ x m v,r=some (x,m)/\e=.returned (.tuple #[.string (S (nmE es x)),v,.bool true])/\MthR (fun k=>w.heap.size<=k) w' m v)
theorem methodt_any {A:Nat->Prop} {B:Nat->Nat} {T mb:Nat} {es:List Ent} {w0:World} (hT:Tab A w0 T mb B es) (hS:Shape es) (hml:∀ i,(mthsAt es i).length<=9223372036854775807) (hsm:∀ i,∀ m ∈ mthsAt es i,m.Small) (c n:List UInt8) (hc:c.length<=9223372036854775807) (w:World) (hw:Below w0.heap.size w0 w) :
  Calls Tryz.prog 40 #[.pointer (some ⟨T,0,none⟩),.string (S c),.string (S n)] w (MethT es (findM es (placeE es c) n) w):=by
 have hb0:Below w.heap.size w (w.alloc (.cells #[.string ⟨#[]⟩,.slice none 0 0,.string ⟨#[]⟩,.bool false,.int .i64 0,.slice none 0 0,.slice none 0 0] 33)):=below_alloc (Below.refl _ _) _;have hx:=Box.new w #[.string ⟨#[]⟩,.slice none 0 0,.string ⟨#[]⟩,.bool false,.int .i64 0,.slice none 0 0,.slice none 0 0] 33;generalize hW:w.alloc (.cells #[.string ⟨#[]⟩,.slice none 0 0,.string ⟨#[]⟩,.bool false,.int .i64 0,.slice none 0 0,.slice none 0 0] 33)=W at hb0 hx;have HTW:=Hd (hT.below (hw.trans (hb0.mono hw.size)));have c0:W.cell? ⟨T,0,none⟩=some (.map (some mb)):=HTW.out.box.cell 0 rfl;have hlk:=HTW.out.look c hc;have HM:=Hd (meth_any hT hS hml (placeE es c) (fun i h=>placeE_lt h) n W (hw.trans (hb0.mono hw.size)));obtain ⟨q0,hq0⟩:=ptrV_is B (placeE es c);rw [hq0] at hlk HM;unfold MethG at HM;have HX:=Hd hx;have HB0:=Hd hb0;obtain ⟨f0,f1,f2,f3,f4,f5,f6⟩:=free7 hx;obtain ⟨k0,k1,k2,k3,k4,k5,k6⟩:=cells7 hx;cases hr:findM es (placeE es c) n with
 | none=>
  rw [hr] at HM;clear hT hS hml hsm hw hb0 hx HTW hq0 hr f0 f1 f2 f3 f4 f5 f6 k0 k1 k2 k3 k4 k5 k6;go_enter Tryz.func40,Tryz.ntmps40
  go_upto_region 1 with fail
  clear hW
  go_wp2_with fail
  with_reducible refine HM.out.mono ?_
  rintro e w1 ⟨po,pm,rfl,hp,hb1⟩;obtain rfl:pm=none:=hp;have x1:=HX.out.below hb1;obtain ⟨f0,f1,f2,f3,f4,f5,f6⟩:=free7 x1;obtain ⟨k0,k1,k2,k3,k4,k5,k6⟩:=cells7 x1;obtain ⟨y1,y2⟩:=set7 x1 (.string ⟨#[]⟩) (.slice none 0 0) (.string ⟨#[]⟩) (.bool false) (.int .i64 0) (.slice none 0 0) (.slice none 0 0);have hbb:=HB0.out.trans (hb1.mono HB0.out.size);have HB:=Hd (hbb.trans (y2.below hbb.size (fun k (q:k=w.heap.size)=>by omega)));have HY:=Hd y1;clear hb1 x1 y1 y2 hbb HM HX HB0 c0 hlk;obtain ⟨X0,hX0⟩:∃ X0,X0=w.heap.size:=⟨_,rfl⟩
  rw [←hX0] at f0 f1 f2 f3 f4 f5 f6 k0 k1 k2 k3 k4 k5 k6 HY ⊢;have HX0:=Hd hX0;clear hX0;go_wp2;have l:=load_box (P:=Tryz.prog) (ty:=33) HY.out Tryz.underlying33 rfl sizec_mth;have hX0:=HX0.out;subst hX0;refine bodyPost_ret (v:=.tuple #[.string ⟨#[]⟩,mthZ,.bool false]) ?_ rfl ⟨HB.out,.inl ⟨rfl,rfl⟩⟩;simp only [results,Tryz.results40];simp [asAddr,l,mthZ]
 | some r=>
  obtain ⟨x,m⟩:=r;rw [hr] at HM;have hmem:=findM_mem0 hr;have hxl:x<es.length:=aboveE_lt hS (fun i h=>placeE_lt h) x hmem.1;obtain ⟨ex,hex⟩:∃ ex,es[x]? = some ex:=⟨_,List.getElem?_eq_getElem hxl⟩
  have hms:m.Small:=hsm x m hmem.2;have HSM:=Hd hms;have HBX:Hid (B x<w0.heap.size):=Hd (hT.lt hxl);have HNX:Hid (nmE es x=ex.cls.name):=Hd (nmE_eq hex);have HEN:Hid (∀ W',Below W.heap.size W W'->W'.cell? ⟨B x,1,none⟩=some (.string (S ex.cls.name))):=Hd (fun W' hW'=>by
   obtain ⟨_,_,_,_,hbx,_⟩:=(HTW.out.below hW').ent x ex hex;exact hbx.cell 1 rfl)
  clear hT hS hml hsm hb0 hx HTW hq0 hr hmem hxl hms f0 f1 f2 f3 f4 f5 f6 k0 k1 k2 k3 k4 k5 k6;go_enter Tryz.func40,Tryz.ntmps40
  go_upto_region 1 with fail
  clear hW
  go_wp2_with fail
  with_reducible refine HM.out.mono ?_
  rintro e w1 ⟨po,pm,rfl,⟨rfl,bm,om,um,hpm,hum,husz,hblt,hucl⟩,hb1⟩;obtain rfl:pm=some ⟨bm,om,none⟩:=by injection hpm
  have hum1:=MthR.st.keep (A:=A) hum (Only.ofBelow (S:=fun _=>False) (hw.trans ((HB0.out.trans (hb1.mono HB0.out.size)).mono hw.size))) (fun _ _=>id);have hcells:∀ W',Below w1.heap.size w1 W'->∀ (j:Nat) u,um.cells[j]? = some u->W'.cell? ⟨bm,om+j,none⟩=some u:=fun W' hW' j u hj=>
   (Only.ofBelow (S:=fun _=>False) (hw.trans (((HB0.out.trans (hb1.mono HB0.out.size)).trans (hW'.mono (HB0.out.trans (hb1.mono HB0.out.size)).size)).mono hw.size))).cell (a:=⟨bm,om+j,none⟩) (hucl j u hj) id
  obtain ⟨_,_,_,rfl,⟨po,pc,rfl⟩,⟨co,cc,rfl⟩,⟨ko,kc,rfl⟩⟩:=mth_shape hum1;have hx0:=HX.out.below hb1;have hX0l:=HX.out.lt;obtain ⟨X0,hX0⟩:∃ X0,X0=w.heap.size:=⟨_,rfl⟩
  rw [←hX0] at hx0 hX0l ⊢;have hBx:B x<w.heap.size:=Nat.lt_of_lt_of_le HBX.out hw.size;have hbm:bm<w.heap.size:=Nat.lt_of_lt_of_le hblt hw.size;have HS:Hid (∀ W,Only (fun k=>k=X0\/w1.heap.size<=k) w1 W->W.cell? ⟨B x,1,none⟩=some (.string (S ex.cls.name))/\W.cell? ⟨bm,om,none⟩=some (.string (S m.name))/\W.cell? ⟨bm,om+1,none⟩=some (.slice po m.params.length pc)/\W.cell? ⟨bm,om+2,none⟩=some (.string (S m.res))/\W.cell? ⟨bm,om+3,none⟩=some (.bool m.abs)/\W.cell? ⟨bm,om+4,none⟩=some (.int .i64 m.loc)/\W.cell? ⟨bm,om+5,none⟩=some (.slice co m.code.length cc)/\W.cell? ⟨bm,om+6,none⟩=some (.slice ko m.cats.length kc)):=Hd (fun W hW=>by
   have hs1:=hb1.size;refine ⟨hW.cell (HEN.out w1 hb1) (fun (q:B x=X0\/w1.heap.size<=B x)=>by rcases q with q|q <;> omega),?_,?_,?_,?_,?_,?_,?_⟩;all_goals first
    | exact hW.cell (a:=⟨bm,om,none⟩) (hcells w1 (Below.refl _ _) 0 _ rfl) (fun (q:bm=X0\/w1.heap.size<=bm)=>by rcases q with q|q <;> omega)
    | exact hW.cell (a:=⟨bm,om+1,none⟩) (hcells w1 (Below.refl _ _) 1 _ rfl) (fun (q:bm=X0\/w1.heap.size<=bm)=>by rcases q with q|q <;> omega)
    | exact hW.cell (a:=⟨bm,om+2,none⟩) (hcells w1 (Below.refl _ _) 2 _ rfl) (fun (q:bm=X0\/w1.heap.size<=bm)=>by rcases q with q|q <;> omega)
    | exact hW.cell (a:=⟨bm,om+3,none⟩) (hcells w1 (Below.refl _ _) 3 _ rfl) (fun (q:bm=X0\/w1.heap.size<=bm)=>by rcases q with q|q <;> omega)
    | exact hW.cell (a:=⟨bm,om+4,none⟩) (hcells w1 (Below.refl _ _) 4 _ rfl) (fun (q:bm=X0\/w1.heap.size<=bm)=>by rcases q with q|q <;> omega)
    | exact hW.cell (a:=⟨bm,om+5,none⟩) (hcells w1 (Below.refl _ _) 5 _ rfl) (fun (q:bm=X0\/w1.heap.size<=bm)=>by rcases q with q|q <;> omega)
    | exact hW.cell (a:=⟨bm,om+6,none⟩) (hcells w1 (Below.refl _ _) 6 _ rfl) (fun (q:bm=X0\/w1.heap.size<=bm)=>by rcases q with q|q <;> omega))
  have HCP:Hid (∀ W,Below w1.heap.size w1 W->Calls Tryz.prog 91 #[.agg #[.string (S m.name),.slice po m.params.length pc,.string (S m.res),.bool m.abs,.int .i64 m.loc,.slice co m.code.length cc,.slice ko m.cats.length kc]] W (fun e w'=>∃ v',e=.returned v'/\MthR (fun i=>W.heap.size<=i) w' m v'/\Below W.heap.size W w')):=Hd (fun W hW=>cp_mth (A:=A) m _ W (MthR.st.keep hum1 (Only.ofBelow (S:=fun _=>False) hW) (fun _ _=>id)) HSM.out);have HX1:=Hd hx0;have HBW:=Hd (HB0.out.trans (hb1.mono HB0.out.size));have HL:=Hd (And.intro hX0l hb1.size);have HX0:=Hd hX0;clear hx0 hX0l hX0 hBx hbm hcells hum1 hum hucl hpm husz hblt hb1 HM HEN HX HB0 hw c0 hlk
  go_upto_region 4 with fail
  obtain ⟨g0,g1,g2,g3,g4,g5,g6,g7⟩:=HS.out w1 (Only.refl _ _);first
  | (go_region_held3 (fun W=>W.cell? ⟨B x,1,none⟩=some (.string (S ex.cls.name))/\W.cell? ⟨bm,om,none⟩=some (.string (S m.name))/\W.cell? ⟨bm,om+1,none⟩=some (.slice po m.params.length pc)/\W.cell? ⟨bm,om+2,none⟩=some (.string (S m.res))/\W.cell? ⟨bm,om+3,none⟩=some (.bool m.abs)/\W.cell? ⟨bm,om+4,none⟩=some (.int .i64 m.loc)/\W.cell? ⟨bm,om+5,none⟩=some (.slice co m.code.length cc)/\W.cell? ⟨bm,om+6,none⟩=some (.slice ko m.cats.length kc)) ((refine HS.out _ ?_;(repeat (first|(with_reducible exact Only.refl _ _)|(with_reducible assumption)|(with_reducible refine Only.drew ?_)|(with_reducible refine Only.setCell ?_ (Or.inl rfl) _)|(with_reducible (apply only_step;rotate_left;assumption))))))
    (first|((go_at_call 91;(with_reducible refine (HCP.out _ ?_).mono ?_);(focus ((repeat (first|(with_reducible exact Below.refl _ _)|(with_reducible refine below_drew ?_)));done));rintro e w4 ⟨v',rfl,hv',hb4⟩;obtain ⟨_,_,_,rfl,⟨po2,pc2,rfl⟩,⟨co2,cc2,rfl⟩,⟨ko2,kc2,rfl⟩⟩:=mth_shape hv';have hB4:Below w1.heap.size w1 w4:=(by (repeat (first|(with_reducible exact Below.refl _ _)|(with_reducible (apply below_step;rotate_left;assumption))|(with_reducible refine below_drew ?_))));have HV4:=Hd hv';have HB4:=Hd hB4;obtain ⟨f0,f1,f2,f3,f4,f5,f6⟩:=free7 (HX1.out.below hB4);obtain ⟨k0,k1,k2,k3,k4,k5,k6⟩:=cells7 (HX1.out.below hB4)))))
  | fail
  all_goals
   obtain ⟨y1,y2⟩:=set7 (HX1.out.below HB4.out) (.string (S m.name)) (.slice po2 m.params.length pc2) (.string (S m.res)) (.bool m.abs) (.int .i64 m.loc) (.slice co2 m.code.length cc2) (.slice ko2 m.cats.length kc2);have off:∀ k,w1.heap.size<=k->¬ k=X0:=fun k hk q=>by have:=HL.out.1;have:=HL.out.2;omega
   have hv5:MthR (fun k=>w.heap.size<=k) _ m (.agg #[.string (S m.name),.slice po2 m.params.length pc2,.string (S m.res),.bool m.abs,.int .i64 m.loc,.slice co2 m.code.length cc2,.slice ko2 m.cats.length kc2]):=MthR.st.mono (MthR.st.keep (MthR.st.mono (A':=fun k=>w1.heap.size<=k) HV4.out (fun k _ (hk:_<=k)=>hk)) y2 off) (fun k _ (hk:w1.heap.size<=k)=>by have:=HL.out.2;have:=HBW.out.size;show w.heap.size<=k;omega);have HV5:=Hd hv5;have hbb:=HBW.out.trans (HB4.out.mono HBW.out.size);have HB:=Hd (hbb.trans (y2.below hbb.size (fun k (q:k=X0)=>by have:=HX0.out;omega)));have HY:=Hd y1;clear y1 y2 off hv5 hbb f0 f1 f2 f3 f4 f5 f6 k0 k1 k2 k3 k4 k5 k6 g0 g1 g2 g3 g4 g5 g6 g7;go_wp2;have l:=load_box (P:=Tryz.prog) (ty:=33) HY.out Tryz.underlying33 rfl sizec_mth;refine bodyPost_ret (v:=.tuple #[.string (S ex.cls.name),.agg #[.string (S m.name),.slice po2 m.params.length pc2,.string (S m.res),.bool m.abs,.int .i64 m.loc,.slice co2 m.code.length cc2,.slice ko2 m.cats.length kc2],.bool true]) ?_ rfl ⟨HB.out,.inr ⟨x,m,_,rfl,by rw [HNX.out],HV5.out⟩⟩;simp only [results,Tryz.results40];simp [asAddr,l]
theorem line_le {cs:List Cls} (h:Lined cs) (n:List UInt8):(lineE (newT cs) (placeE (newT cs) n)).length<=10000:=by
 have h2:=lineF_len (newT cs) (newT cs).length (placeE (newT cs) n);have h3:=newT_len cs;have h4:=h.len;unfold lineE;omega
theorem small_fit {m:Mth} (h:m.Small):m.Fit:=by
 have h1:=h.name;have h2:=h.res;have h3:=h.n1;have h4:=h.n2;have h5:=h.n3;exact ⟨by unfold strOk;omega,by unfold strOk;omega,fun x hx=>by have:=h.params x hx;unfold strOk;omega,fun x hx=>by have:=(h.code x hx).2;unfold strOk;omega,fun x hx=>by have:=h.cats x hx;unfold strOk;omega,by omega,by omega,by omega⟩
def zeroM:Mth:=⟨[],[],[],false,0,[],[]⟩
theorem zeroM_mth (w:World):MthR Anyw w zeroM (.agg #[.string ⟨#[]⟩,.slice none 0 0,.string ⟨#[]⟩,.bool false,.int .i64 0,.slice none 0 0,.slice none 0 0]):=⟨_,_,_,rfl,Src.nil,Src.nil,Src.nil⟩
theorem zeroM_fit:zeroM.Fit:=⟨by unfold strOk zeroM;simp,by unfold strOk zeroM;simp,fun x hx=>(by cases hx),fun x hx=>(by cases hx),fun x hx=>(by cases hx),by unfold zeroM;simp,by unfold zeroM;simp,by unfold zeroM;simp⟩
def oneCls (m:Mth):Cls:=⟨[],[],[],false,false,false,[],[m]⟩
theorem one_fit {m:Mth} (h:m.Fit):(oneCls m).Fit:=⟨by unfold strOk oneCls;simp,by unfold strOk oneCls;simp,fun x hx=>(by cases hx),fun f hf=>(by cases hf),fun x hx=>by rw [List.mem_singleton.1 hx];exact h,by unfold oneCls;simp,by unfold oneCls;simp,by unfold oneCls;simp⟩
def clsOf (b:Nat):Value:=.agg #[.string ⟨#[]⟩,.string ⟨#[]⟩,.slice none 0 0,.bool false,.bool false,.bool false,.slice none 0 0,.slice (some ⟨b,0,none⟩) 1 1]
theorem one_cls {A:Nat->Prop} {w W:World} {m:Mth} {v:Value} {b:Nat} (h:MthR A w m v) (hb:Below w.heap.size w W) (hx:Box W b v.cells 33):ClsR Anyw W (oneCls m) (clsOf b):=by
 refine ⟨_,_,_,rfl,Src.nil,Src.nil,.inr ⟨b,0,1,rfl,⟨trivial,hx.lt,Nat.le_refl _,by decide⟩,fun k x hk=>?_⟩⟩;cases k with
 | zero=>
  obtain rfl:=Option.some.inj hk;exact ⟨v,MthR.st.mono (MthR.st.keep h (Only.ofBelow (S:=fun _=>False) hb) (fun _ _=>id)) (fun _ _ _=>trivial),(mthR_mv h).1,fun j u hj=>by
   have q:=hx.cell j hj;rw [show 0+0 * 7+j=j by omega];exact q⟩
 | succ k=>simp [oneCls] at hk
def SameTwo (u v:Value) (w:World):Prop:=Calls Tryz.prog 19 #[clsOf w.heap.size,clsOf (w.heap.size+1)] ((w.alloc (.cells u.cells 33)).alloc (.cells v.cells 33)) (fun e w'=>e=.returned (.bool true)/\Below w.heap.size w w')
theorem same_two {A1 A2:Nat->Prop} (a b:Mth) (u v:Value) (w:World) (hu:MthR A1 w a u) (hv:MthR A2 w b v) (ha:a.Fit) (hb:b.Fit) (e:a=b:=by rfl):SameTwo u v w:=by
 subst e;have b1:Below w.heap.size w (w.alloc (.cells u.cells 33)):=below_alloc (Below.refl _ _) _;have b2:Below w.heap.size w ((w.alloc (.cells u.cells 33)).alloc (.cells v.cells 33)):=below_alloc b1 _;have c1:=one_cls hu b2 ((Box.new w u.cells 33).below (below_alloc (Below.refl _ _) _));have c2:=one_cls hv b2 (box_at (W:=w.alloc (.cells u.cells 33)) (b:=w.heap.size+1) (cs:=v.cells) (t:=33) (by simp));have h:=refsame5_any (oneCls a) (oneCls a) _ _ _ c1 c2 (one_fit ha) (one_fit ha);rw [cls_refl] at h;refine h.mono ?_;rintro e w' ⟨h1,h2⟩;exact ⟨h1,b2.trans (h2.mono b2.size)⟩
theorem hierMembers_any {A:Nat->Prop} (cs:List Cls) (sv:Value) (qa qb:List UInt8) (w:World) (hs:Src 8 ClsR A w sv cs) (hT:HT6 w) (hfit:∀ c ∈ cs,c.Fit) (hheld:∀ c ∈ cs,c.held) (hlen:cs.length<=9223372036854775807) (hqa:qa.length<=9223372036854775807) (hqb:qb.length<=9223372036854775807) :
  Calls Tryz.prog 8 #[sv,.string (S qa),.string (S qb)] w (Said true w):=by
 have HA:Hid (∀ W,Below w.heap.size w W->Calls Tryz.prog 22 #[] W (Said true W)):=Hd (fun W hW=>awake6_any W (hT.ft.keep hW) (hT.ct.keep hW));have HF:=Hd (few6_any cs sv w hs hfit hlen);have HN:Hid (∀ W,Below w.heap.size w W->cs.length<=12->Calls Tryz.prog 23 #[sv] W (NewG cs W)):=Hd (fun W hW hl=>new_any cs sv W (ClsR.st.below hs hW) (hT.ft.keep hW) (hT.ct.keep hW) hfit hheld (by omega));have HRN:Hid (∀ W,Below w.heap.size w W->cs.length<=12->Calls Tryz.prog 24 #[sv] W (RNewG cs W)):=Hd (fun W hW hl=>rnew_any cs sv W (ClsR.st.below hs hW) hfit hheld (by omega));unfold Few6G at HF;unfold Said at HA;obtain ⟨so,sc,rfl⟩:=hs.shape;have za:((S qa).size:Int)=(qa.length:Int):=by rw [S_size]
 have zb:((S qb).size:Int)=(qb.length:Int):=by rw [S_size]
 have HQA:=Hd hqa;have HQB:=Hd hqb;clear hs hT hfit hheld hlen hqa hqb;unfold Said;go_enter Tryz.func8,Tryz.ntmps8
 go_wp2_with fail
 with_reducible refine HF.out.mono ?_
 rintro e w1 ⟨b,rfl,hb12,hb1⟩;have HB1:=Hd hb1;have H12:=Hd hb12;clear hb1 hb12 HF;cases b with
 | false=>
  go_wp2_with fail
  with_reducible refine (HA.out w1 HB1.out).mono ?_
  rintro e wz0 ⟨rfl,hb⟩;have HZ0:=Hd (HB1.out.trans (hb.mono HB1.out.size));clear hb;go_wp2;go_ret;exact ⟨rfl,HZ0.out⟩
 | true=>
  by_cases hg0:100<qa.length
  ·have ig0:100<(qa.length:Int):=by omega
   clear hg0
   go_wp2_with fail
   with_reducible refine (HA.out w1 HB1.out).mono ?_
   rintro e wz0 ⟨rfl,hb⟩;have HZ0:=Hd (HB1.out.trans (hb.mono HB1.out.size));clear hb;go_wp2;go_ret;exact ⟨rfl,HZ0.out⟩
  have ig0:¬ (100<(qa.length:Int)):=by omega
  clear hg0;by_cases hg1:100<qb.length
  ·have ig1:100<(qb.length:Int):=by omega
   clear hg1
   go_wp2_with fail
   with_reducible refine (HA.out w1 HB1.out).mono ?_
   rintro e wz0 ⟨rfl,hb⟩;have HZ0:=Hd (HB1.out.trans (hb.mono HB1.out.size));clear hb;go_wp2;go_ret;exact ⟨rfl,HZ0.out⟩
  have ig1:¬ (100<(qb.length:Int)):=by omega
  clear hg1;have HQA1:Hid (qa.length<=100):=Hd (by omega);have HQB1:Hid (qb.length<=100):=Hd (by omega);have HNW:=Hd (HN.out w1 HB1.out (H12.out rfl));have HRW:Hid (∀ W,Below w.heap.size w W->Calls Tryz.prog 24 #[.slice so cs.length sc] W (RNewG cs W)):=Hd (fun W hW=>HRN.out W hW (H12.out rfl));have HTW:Hid (cs.length<=12):=Hd (H12.out rfl);clear HN HRN H12
  go_wp2_with fail
  clear za zb ig0 ig1;with_reducible refine HNW.out.mono ?_
  rintro e w2 h;rcases h with ⟨i,z,hbad,rfl,hb2⟩|⟨hok,T,mb,B,rfl,htb,hb2⟩
  ·have HBD:=Hd hbad;have HB2:=Hd (HB1.out.trans (hb2.mono HB1.out.size));clear hb2 HNW;have HRC:=Hd (HRW.out w2 HB2.out);unfold RNewG at HRC
   go_wp2_with fail
   with_reducible refine HRC.out.mono ?_
   rintro e w3 h;rcases h with ⟨i',z',hbad',rfl,hb3⟩|⟨hok,_⟩
   ·have hz0:(z':Int) ≠ 0:=by have:=hbad'.ne;omega
    have hz1:((z':Int) != 0)=true:=by simpa using hz0
    have HB3:=Hd (HB2.out.trans (hb3.mono HB2.out.size));clear hb3 hbad hbad' HRC
    go_wp2_with fail
    with_reducible refine (HA.out w3 HB3.out).mono ?_
    rintro e wz0 ⟨rfl,hb⟩;have HZ0:=Hd (HB3.out.trans (hb.mono HB3.out.size));clear hb
    go_wp2_with fail
    with_reducible refine (HA.out wz0 HZ0.out).mono ?_
    rintro e wz1 ⟨rfl,hb⟩;have HZ1:=Hd (HZ0.out.trans (hb.mono HZ0.out.size));clear hb;go_wp2;go_ret;exact ⟨rfl,HZ1.out⟩
   ·exact (HBD.out.not hok).elim
  ·have HOK:=Hd hok;have HB2:=Hd (HB1.out.trans (hb2.mono HB1.out.size));have HTB:=Hd htb.tab;clear hb2 HNW htb;have HRC:=Hd (HRW.out w2 HB2.out);unfold RNewG at HRC
   go_wp2_with fail
   with_reducible refine HRC.out.mono ?_
   rintro e w3 h;rcases h with ⟨i',z',hbad',_⟩|⟨_,v,rfl,hsrc,hb3⟩
   ·exact (hbad'.not HOK.out).elim
   ·have HR:Hid (Below w2.heap.size w2 w3):=Hd hb3;have HB3:=Hd (HB2.out.trans (hb3.mono HB2.out.size));have HF1:Hid (∀ W,Below w2.heap.size w2 W->Calls Tryz.prog 36 #[.pointer (some ⟨T,0,none⟩),.string (S qa)] W (FldsG (fldsL (newT cs) (lineE (newT cs) (placeE (newT cs) qa))) W)):=Hd (fun W hW=>fieldst_any HTB.out HOK.out.shape qa W hW HQA.out);have HLN:=line_le HOK.out.lined qa;have HF2:Hid (∀ W,Below w3.heap.size w3 W->Calls Tryz.prog 37 #[v,.string (S qa)] W (FldsG (fldsL (newT cs) (lineE (newT cs) (placeE (newT cs) qa))) W)):=Hd (fun W hW=>rfields_any cs HOK.out.lined HOK.out.wise v _ qa W (HOK.out.wise.sh.line _ (fun i hi=>placeE_lt hi)) HLN (ClsR.st.below hsrc hW));have HP1:Hid (∀ W,Below w2.heap.size w2 W->Calls Tryz.prog 38 #[.pointer (some ⟨T,0,none⟩),.string (S qa),.string (S qb)] W (fun e w'=>e=.returned (.int .i64 (idxV (placeF (newT cs) qa qb)))/\Below W.heap.size W w')):=Hd (fun W hW=>placet_any HTB.out HOK.out.shape qa qb W hW HQA.out);have HP2:Hid (∀ W,Below w3.heap.size w3 W->Calls Tryz.prog 39 #[v,.string (S qa),.string (S qb)] W (fun e w'=>e=.returned (.int .i64 (idxV (placeF (newT cs) qa qb)))/\Below W.heap.size W w')):=Hd (fun W hW=>rplace_any cs HOK.out.lined HOK.out.wise v qa qb W (ClsR.st.below hsrc hW));have HM1:Hid (∀ W,Below w2.heap.size w2 W->Calls Tryz.prog 40 #[.pointer (some ⟨T,0,none⟩),.string (S qa),.string (S qb)] W (MethT (newT cs) (findM (newT cs) (placeE (newT cs) qa) qb) W)):=Hd (fun W hW=>methodt_any HTB.out HOK.out.shape (fun i=>by have:=HOK.out.lined.few i;omega) (fun i m hm=>(HOK.out.wise.good i m hm).small) qa qb (by have:=HQA1.out;omega) W hW);have HM2:Hid (∀ W,Below w3.heap.size w3 W->Calls Tryz.prog 41 #[v,.string (S qa),.string (S qb)] W (LikeG w3.heap.size (newT cs) (findM (newT cs) (placeE (newT cs) qa) qb) W)):=Hd (fun W hW=>rmethod_any w3.heap.size cs HOK.out.lined HOK.out.wise v qa qb W hW.size (ClsR.st.below (ClsR.st.srcMono (A':=fun k=>k<w3.heap.size) hsrc (fun k hk _=>hk)) hW));have HFM:Hid (∀ r,findM (newT cs) (placeE (newT cs) qa) qb=some r->r.2.Fit):=Hd (fun r hr=>small_fit (HOK.out.wise.good _ _ (findM_mem0 hr).2).small);obtain ⟨vo,vc,rfl⟩:=hsrc.shape;generalize findM (newT cs) (placeE (newT cs) qa) qb=rm at HM1 HM2 HFM;generalize idxV (placeF (newT cs) qa qb)=zp at HP1 HP2;obtain ⟨fl,hfl⟩:∃ fl,fl=fldsL (newT cs) (lineE (newT cs) (placeE (newT cs) qa)):=⟨_,rfl⟩
    rw [←hfl] at HF1 HF2;have hfle:fl.length<=1048576:=by
     rw [hfl];have:=fldsL_le HOK.out.wise.sh.fl (lineE (newT cs) (placeE (newT cs) qa));omega
    unfold FldsG at HF1 HF2;clear hb3 hok hsrc HRC HRW HTB HLN hfl
    go_wp2_with fail
    with_reducible refine (HA.out w3 HB3.out).mono ?_
    rintro e w4 ⟨rfl,hb⟩;have HR4:=Hd (HR.out.trans (hb.mono HR.out.size));have H34:=Hd hb;clear hb HA
    go_wp2_with fail
    with_reducible refine (HF1.out w4 HR4.out).mono ?_
    rintro e y1 ⟨f1,rfl,ht1,hb⟩;have HR5:=Hd (HR4.out.trans (hb.mono HR4.out.size));have H35:=Hd (H34.out.trans (hb.mono H34.out.size));have HT1:=Hd (ht1.src FldR.st);obtain ⟨fo1,fc1,rfl⟩:=ht1.shape;clear hb HF1 ht1
    go_wp2_with fail
    with_reducible refine (HF2.out y1 H35.out).mono ?_
    rintro e y2 ⟨f2,rfl,ht2,hb⟩;have HR6:=Hd (HR5.out.trans (hb.mono HR5.out.size));have H36:=Hd (H35.out.trans (hb.mono H35.out.size));have HT12:=Hd (FldR.st.below HT1.out hb);have HT2:=Hd (ht2.src FldR.st);obtain ⟨fo2,fc2,rfl⟩:=ht2.shape;obtain ⟨nf,hnf⟩:∃ nf,nf=fl.length:=⟨_,rfl⟩
    rw [←hnf] at HT12 HT2 hfle ⊢;have HNF:=Hd hnf;clear hb HF2 ht2 HT1 hnf
    go_wp2_with fail
    with_reducible refine (HP1.out y2 HR6.out).mono ?_
    rintro e y3 ⟨rfl,hb⟩;have HR7:=Hd (HR6.out.trans (hb.mono HR6.out.size));have H37:=Hd (H36.out.trans (hb.mono H36.out.size));have HT13:=Hd (FldR.st.below HT12.out hb);have HT23:=Hd (FldR.st.below HT2.out hb);clear hb HP1 HT12 HT2
    go_wp2_with fail
    with_reducible refine (HP2.out y3 H37.out).mono ?_
    rintro e y4 ⟨rfl,hb⟩;have HR8:=Hd (HR7.out.trans (hb.mono HR7.out.size));have H38:=Hd (H37.out.trans (hb.mono H37.out.size));have HT14:=Hd (FldR.st.below HT13.out hb);have HT24:=Hd (FldR.st.below HT23.out hb);clear hb HP2 HT13 HT23;go_wp2
    go_loopw [15] (fun v15 wr=>∃ k:Nat,k<=nf/\v15=.int .i64 k/\Below y4.heap.size y4 wr) (fun v15 _=>nf - (intOf v15).toNat)
    case atStart=>exact ⟨0,Nat.zero_le _,rfl,Below.refl _ _⟩
    case round=>
     obtain ⟨k,hk,rfl,hbw⟩:=hrel;have HW:=Hd hbw;clear hbw;by_cases hlt:k<nf
     ·obtain ⟨f,hf⟩:∃ f,fl[k]? = some f:=⟨_,List.getElem?_eq_getElem (by rw [←HNF.out];exact hlt)⟩
      obtain ⟨b1,o1,u1,hfo1,hu1,_,hc1⟩:=Src.elem (FldR.st.below HT14.out HW.out) k f hf;obtain ⟨b2,o2,u2,hfo2,hu2,_,hc2⟩:=Src.elem (FldR.st.below HT24.out HW.out) k f hf;obtain rfl:fo1=some ⟨b1,o1,none⟩:=hfo1;obtain rfl:fo2=some ⟨b2,o2,none⟩:=hfo2;obtain rfl:=hu1;obtain rfl:=hu2;have g0:wr.cell? ⟨b1,o1+k * 3,none⟩=some (.string (S f.name)):=hc1 0 _ rfl;have g1:wr.cell? ⟨b1,o1+k * 3+1,none⟩=some (.string (S f.kind)):=hc1 1 _ rfl;have g2:wr.cell? ⟨b1,o1+k * 3+2,none⟩=some (.bool f.tr):=hc1 2 _ rfl;have g3:wr.cell? ⟨b2,o2+k * 3,none⟩=some (.string (S f.name)):=hc2 0 _ rfl;have g4:wr.cell? ⟨b2,o2+k * 3+1,none⟩=some (.string (S f.kind)):=hc2 1 _ rfl;have g5:wr.cell? ⟨b2,o2+k * 3+2,none⟩=some (.bool f.tr):=hc2 2 _ rfl;have hk0:(0:Int)<=(k:Int):=by omega
      have hkn:(k:Int)<(nf:Int):=by omega
      have e1:=S_toList f.name;have e2:=S_toList f.kind;generalize f.name=fn at g0 g3 e1;generalize f.kind=fk at g1 g4 e2;generalize f.tr=ft at g2 g5;clear hf hc1 hc2
      go_upto_region 13 with fail
      go_quiet (fail)
      all_goals
       go_wp2
       go_roundw
       case rel=>exact ⟨k+1,by omega,by go_num,HW.out.trans (Below.mono (by first|exact below_drewN _ _|exact below_drew (Below.refl _ _)|exact Below.refl _ _) HW.out.size)⟩
       case measure=>simp [intOf];omega
     ·obtain rfl:k=nf:=by omega
      obtain ⟨wZ,rfl⟩:∃ wZ,wZ=wr:=⟨_,rfl⟩
      have HR9:=Hd (HR8.out.trans (HW.out.mono HR8.out.size));have H39:=Hd (H38.out.trans (HW.out.mono H38.out.size));have HMA:=Hd (HM1.out wZ HR9.out);unfold MethT at HMA;unfold LikeG at HM2
      go_wp2_with fail
      clear HT14 HT24 HW HR8 H38;with_reducible refine HMA.out.mono ?_
      rintro e wa ⟨hba,hca⟩;have H3A:=Hd (H39.out.trans (hba.mono H39.out.size));clear hba HMA;rcases hca with ⟨hr,rfl⟩|⟨x,m,v1,hr,rfl,hv1⟩
      ·have hal:Below wa.heap.size wa (wa.alloc (.cells #[.string ⟨#[]⟩,.slice none 0 0,.string ⟨#[]⟩,.bool false,.int .i64 0,.slice none 0 0,.slice none 0 0] 33)):=below_alloc (Below.refl _ _) _;have HX1:=Hd (Box.new wa #[.string ⟨#[]⟩,.slice none 0 0,.string ⟨#[]⟩,.bool false,.int .i64 0,.slice none 0 0,.slice none 0 0] 33);have H3B:=Hd (H3A.out.trans (hal.mono H3A.out.size));have HMB:=Hd (HM2.out _ H3B.out);clear hal HM1 HM2;unfold mthZ
       go_upto_region 16 with fail
       generalize hWA:wa.alloc (.cells #[.string ⟨#[]⟩,.slice none 0 0,.string ⟨#[]⟩,.bool false,.int .i64 0,.slice none 0 0,.slice none 0 0] 33)=WA at HX1 H3B HMB ⊢;obtain ⟨ba,hba⟩:∃ ba,ba=wa.heap.size:=⟨_,rfl⟩
       rw [←hba] at HX1 ⊢;clear hWA hba
       go_wp2_with fail
       with_reducible refine HMB.out.mono ?_
       rintro e wb ⟨hbb,hcb⟩;have H3C:=Hd (H3B.out.trans (hbb.mono H3B.out.size));have HX2:=Hd (HX1.out.below hbb);clear hbb HMB;rcases hcb with ⟨_,rfl⟩|⟨x,m,v2,hr2,_⟩
       ·have hal2:Below wb.heap.size wb (wb.alloc (.cells #[.string ⟨#[]⟩,.slice none 0 0,.string ⟨#[]⟩,.bool false,.int .i64 0,.slice none 0 0,.slice none 0 0] 33)):=below_alloc (Below.refl _ _) _;have HY2:=Hd (Box.new wb #[.string ⟨#[]⟩,.slice none 0 0,.string ⟨#[]⟩,.bool false,.int .i64 0,.slice none 0 0,.slice none 0 0] 33);have HX3:=Hd (HX2.out.below hal2);have H3D:=Hd (H3C.out.trans (hal2.mono H3C.out.size));clear hal2;unfold mthZ
        go_upto_region 17 with fail
        generalize hWB:wb.alloc (.cells #[.string ⟨#[]⟩,.slice none 0 0,.string ⟨#[]⟩,.bool false,.int .i64 0,.slice none 0 0,.slice none 0 0] 33)=WB at HY2 HX3 H3D ⊢;obtain ⟨bb,hbb⟩:∃ bb,bb=wb.heap.size:=⟨_,rfl⟩
        rw [←hbb] at HY2 ⊢;clear hWB hbb;have HSM:Hid (Calls Tryz.prog 19 #[.agg #[.string ⟨#[]⟩,.string ⟨#[]⟩,.slice none 0 0,.bool false,.bool false,.bool false,.slice none 0 0,.slice (some ⟨WB.heap.size,0,none⟩) 1 1],.agg #[.string ⟨#[]⟩,.string ⟨#[]⟩,.slice none 0 0,.bool false,.bool false,.bool false,.slice none 0 0,.slice (some ⟨WB.heap.size+1,0,none⟩) 1 1]] ((WB.alloc (.cells #[.string ⟨#[]⟩,.slice none 0 0,.string ⟨#[]⟩,.bool false,.int .i64 0,.slice none 0 0,.slice none 0 0] 33)).alloc (.cells #[.string ⟨#[]⟩,.slice none 0 0,.string ⟨#[]⟩,.bool false,.int .i64 0,.slice none 0 0,.slice none 0 0] 33)) (fun e w'=>e=.returned (.bool true)/\Below WB.heap.size WB w')):=Hd (same_two zeroM zeroM (.agg #[.string ⟨#[]⟩,.slice none 0 0,.string ⟨#[]⟩,.bool false,.int .i64 0,.slice none 0 0,.slice none 0 0]) (.agg #[.string ⟨#[]⟩,.slice none 0 0,.string ⟨#[]⟩,.bool false,.int .i64 0,.slice none 0 0,.slice none 0 0]) WB (zeroM_mth WB) (zeroM_mth WB) zeroM_fit zeroM_fit);obtain ⟨a0,a1,a2,a3,a4,a5,a6⟩:=cells7 HX3.out;obtain ⟨c0,c1,c2,c3,c4,c5,c6⟩:=cells7 HY2.out;obtain ⟨d0,d1,d2,d3,d4,d5,d6⟩:=cells7 (HY2.out.below (below_alloc (Below.refl _ _) (.cells #[.string ⟨#[]⟩,.slice none 0 0,.string ⟨#[]⟩,.bool false,.int .i64 0,.slice none 0 0,.slice none 0 0] 33)))
        go_wp2_with fail
        with_reducible refine HSM.out.mono ?_
        rintro e wf ⟨rfl,hb⟩;have HZ:=Hd (HB3.out.trans ((H3D.out.trans (hb.mono H3D.out.size)).mono HB3.out.size));clear hb HSM;go_wp2;go_ret;exact ⟨rfl,HZ.out⟩
       ·rw [hr] at hr2;cases hr2
      ·have HMF:=Hd (HFM.out _ hr);have HRM:=Hd hr;have HV1:=Hd hv1;obtain ⟨_,_,_,rfl,⟨pp,pq,rfl⟩,⟨pc,pd,rfl⟩,⟨pk,pl,rfl⟩⟩:=mth_shape hv1;have hal:Below wa.heap.size wa (wa.alloc (.cells #[.string (S m.name),.slice pp m.params.length pq,.string (S m.res),.bool m.abs,.int .i64 m.loc,.slice pc m.code.length pd,.slice pk m.cats.length pl] 33)):=below_alloc (Below.refl _ _) _;have HX1:=Hd (Box.new wa #[.string (S m.name),.slice pp m.params.length pq,.string (S m.res),.bool m.abs,.int .i64 m.loc,.slice pc m.code.length pd,.slice pk m.cats.length pl] 33);have H3B:=Hd (H3A.out.trans (hal.mono H3A.out.size));have HMB:=Hd (HM2.out _ H3B.out);have HV2:=Hd (MthR.st.keep HV1.out (Only.ofBelow (S:=fun _=>False) hal) (fun _ _=>id));clear hal HM1 HM2 hr hv1 HV1
       go_upto_region 16 with fail
       generalize hWA:wa.alloc (.cells #[.string (S m.name),.slice pp m.params.length pq,.string (S m.res),.bool m.abs,.int .i64 m.loc,.slice pc m.code.length pd,.slice pk m.cats.length pl] 33)=WA at HX1 H3B HMB HV2 ⊢;obtain ⟨ba,hba⟩:∃ ba,ba=wa.heap.size:=⟨_,rfl⟩
       rw [←hba] at HX1 ⊢;clear hWA hba
       go_wp2_with fail
       with_reducible refine HMB.out.mono ?_
       rintro e wb ⟨hbb,hcb⟩;have H3C:=Hd (H3B.out.trans (hbb.mono H3B.out.size));have HX2:=Hd (HX1.out.below hbb);have HV3:=Hd (MthR.st.keep HV2.out (Only.ofBelow (S:=fun _=>False) hbb) (fun _ _=>id));clear hbb HMB HV2;rcases hcb with ⟨hr2,_⟩|⟨x2,m2,v2,hr2,rfl,hv2⟩
       ·rw [HRM.out] at hr2;cases hr2
       ·rw [HRM.out] at hr2;obtain ⟨rfl,rfl⟩:=Prod.mk.inj (Option.some.inj hr2);have HU1:=Hd hv2;obtain ⟨_,_,_,rfl,⟨qp,qq,rfl⟩,⟨qc,qd,rfl⟩,⟨qk,ql,rfl⟩⟩:=mth_shape hv2;have hal2:Below wb.heap.size wb (wb.alloc (.cells #[.string (S m.name),.slice qp m.params.length qq,.string (S m.res),.bool m.abs,.int .i64 m.loc,.slice qc m.code.length qd,.slice qk m.cats.length ql] 33)):=below_alloc (Below.refl _ _) _;have HY2:=Hd (Box.new wb #[.string (S m.name),.slice qp m.params.length qq,.string (S m.res),.bool m.abs,.int .i64 m.loc,.slice qc m.code.length qd,.slice qk m.cats.length ql] 33);have HX3:=Hd (HX2.out.below hal2);have H3D:=Hd (H3C.out.trans (hal2.mono H3C.out.size));have HV4:=Hd (MthR.st.keep HV3.out (Only.ofBelow (S:=fun _=>False) hal2) (fun _ _=>id));have HU2:=Hd (MthR.st.keep HU1.out (Only.ofBelow (S:=fun _=>False) hal2) (fun _ _=>id));clear hal2 hr2 hv2 HRM
        go_upto_region 17 with fail
        generalize hWB:wb.alloc (.cells #[.string (S m.name),.slice qp m.params.length qq,.string (S m.res),.bool m.abs,.int .i64 m.loc,.slice qc m.code.length qd,.slice qk m.cats.length ql] 33)=WB at HY2 HX3 H3D HV4 HU2 ⊢;obtain ⟨bb,hbb⟩:∃ bb,bb=wb.heap.size:=⟨_,rfl⟩
        rw [←hbb] at HY2 ⊢;clear hWB hbb;have HSM:Hid (Calls Tryz.prog 19 #[.agg #[.string ⟨#[]⟩,.string ⟨#[]⟩,.slice none 0 0,.bool false,.bool false,.bool false,.slice none 0 0,.slice (some ⟨WB.heap.size,0,none⟩) 1 1],.agg #[.string ⟨#[]⟩,.string ⟨#[]⟩,.slice none 0 0,.bool false,.bool false,.bool false,.slice none 0 0,.slice (some ⟨WB.heap.size+1,0,none⟩) 1 1]] ((WB.alloc (.cells #[.string (S m.name),.slice pp m.params.length pq,.string (S m.res),.bool m.abs,.int .i64 m.loc,.slice pc m.code.length pd,.slice pk m.cats.length pl] 33)).alloc (.cells #[.string (S m.name),.slice qp m.params.length qq,.string (S m.res),.bool m.abs,.int .i64 m.loc,.slice qc m.code.length qd,.slice qk m.cats.length ql] 33)) (fun e w'=>e=.returned (.bool true)/\Below WB.heap.size WB w')):=Hd (same_two m m (.agg #[.string (S m.name),.slice pp m.params.length pq,.string (S m.res),.bool m.abs,.int .i64 m.loc,.slice pc m.code.length pd,.slice pk m.cats.length pl]) (.agg #[.string (S m.name),.slice qp m.params.length qq,.string (S m.res),.bool m.abs,.int .i64 m.loc,.slice qc m.code.length qd,.slice qk m.cats.length ql]) WB HV4.out HU2.out HMF.out HMF.out);have e1:=S_toList (nmE (newT cs) x);generalize nmE (newT cs) x=nx at e1 ⊢;obtain ⟨a0,a1,a2,a3,a4,a5,a6⟩:=cells7 HX3.out;obtain ⟨c0,c1,c2,c3,c4,c5,c6⟩:=cells7 HY2.out;obtain ⟨d0,d1,d2,d3,d4,d5,d6⟩:=cells7 (HY2.out.below (below_alloc (Below.refl _ _) (.cells #[.string (S m.name),.slice pp m.params.length pq,.string (S m.res),.bool m.abs,.int .i64 m.loc,.slice pc m.code.length pd,.slice pk m.cats.length pl] 33)))
        go_wp2_with fail
        with_reducible refine HSM.out.mono ?_
        rintro e wf ⟨rfl,hb⟩;have HZ:=Hd (HB3.out.trans ((H3D.out.trans (hb.mono H3D.out.size)).mono HB3.out.size));clear hb HSM;go_wp2;go_ret;exact ⟨rfl,HZ.out⟩
theorem hierMembers_all (sv:Value) (l:List Cls) (qa qb:List UInt8) (w:World) (hT:HT6 w) (hs:Src 8 ClsR Anyw w sv l) (hr:∀ c ∈ l,c.real) (hlen:l.length<=9223372036854775807) (ha:qa.length<=9223372036854775807) (hb:qb.length<=9223372036854775807) :
  Calls Tryz.prog 8 #[sv,.string (S qa),.string (S qb)] w (Said true w):=
 hierMembers_any l sv qa qb w hs hT (fun c hc=>(hr c hc).2.1) (fun c hc=>(hr c hc).1) hlen ha hb
end Go.Proofs.YtpincofjopmaaaaGreatDoor
