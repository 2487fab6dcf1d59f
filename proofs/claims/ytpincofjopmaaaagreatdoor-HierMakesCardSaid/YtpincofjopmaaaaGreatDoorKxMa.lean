/-
  Texts HSet, HObj, HNames, HRefD, HRefQ, HOrderL, HMakesL, HLawsN: laws that the claims lean on.
  Conditions: as each law says.
-/
import Derived.Test.YtpincofjopmaaaaGreatDoorKxMeMa
import Derived.Test.YtpincofjopmaaaaGreatDoorK68
set_option maxRecDepth 100000
set_option maxHeartbeats 16000000
namespace Go.Proofs.YtpincofjopmaaaaGreatDoor
open Go.RowKit
theorem set8 {w:World} {B:Nat} {t:TypeId} {a0 a1 a2 a3 a4 a5 a6 a7:Value} (h:Box w B #[a0,a1,a2,a3,a4,a5,a6,a7] t) (v0 v1 v2 v3 v4 v5 v6 v7:Value) :
  Box ((((((((w.setCell ⟨B,0,none⟩ v0).setCell ⟨B,1,none⟩ v1).setCell ⟨B,2,none⟩ v2).setCell ⟨B,3,none⟩ v3).setCell ⟨B,4,none⟩ v4).setCell ⟨B,5,none⟩ v5).setCell ⟨B,6,none⟩ v6).setCell ⟨B,7,none⟩ v7) B #[v0,v1,v2,v3,v4,v5,v6,v7] t/\Only (fun i=>i=B) w ((((((((w.setCell ⟨B,0,none⟩ v0).setCell ⟨B,1,none⟩ v1).setCell ⟨B,2,none⟩ v2).setCell ⟨B,3,none⟩ v3).setCell ⟨B,4,none⟩ v4).setCell ⟨B,5,none⟩ v5).setCell ⟨B,6,none⟩ v6).setCell ⟨B,7,none⟩ v7):=
 ⟨((((((((h.setTo 0 v0 #[v0,a1,a2,a3,a4,a5,a6,a7] rfl).setTo 1 v1 #[v0,v1,a2,a3,a4,a5,a6,a7] rfl).setTo 2 v2 #[v0,v1,v2,a3,a4,a5,a6,a7] rfl).setTo 3 v3 #[v0,v1,v2,v3,a4,a5,a6,a7] rfl).setTo 4 v4 #[v0,v1,v2,v3,v4,a5,a6,a7] rfl).setTo 5 v5 #[v0,v1,v2,v3,v4,v5,a6,a7] rfl).setTo 6 v6 #[v0,v1,v2,v3,v4,v5,v6,a7] rfl).setTo 7 v7 #[v0,v1,v2,v3,v4,v5,v6,v7] rfl),((((((((Only.refl (fun i=>i=B) w).setCell (p:=⟨B,0,none⟩) rfl v0).setCell (p:=⟨B,1,none⟩) rfl v1).setCell (p:=⟨B,2,none⟩) rfl v2).setCell (p:=⟨B,3,none⟩) rfl v3).setCell (p:=⟨B,4,none⟩) rfl v4).setCell (p:=⟨B,5,none⟩) rfl v5).setCell (p:=⟨B,6,none⟩) rfl v6).setCell (p:=⟨B,7,none⟩) rfl v7⟩
theorem free8 {w:World} {B:Nat} {t:TypeId} {cs:Array Value} (h:Box w B cs t):w.frozen? ⟨B,0,none⟩=false/\w.frozen? ⟨B,1,none⟩=false/\w.frozen? ⟨B,2,none⟩=false/\w.frozen? ⟨B,3,none⟩=false/\w.frozen? ⟨B,4,none⟩=false/\w.frozen? ⟨B,5,none⟩=false/\w.frozen? ⟨B,6,none⟩=false/\w.frozen? ⟨B,7,none⟩=false:=⟨h.free 0,h.free 1,h.free 2,h.free 3,h.free 4,h.free 5,h.free 6,h.free 7⟩
def clsZ:Value:=.agg #[.string ⟨#[]⟩,.string ⟨#[]⟩,.slice none 0 0,.bool false,.bool false,.bool false,.slice none 0 0,.slice none 0 0]
def GetG6 (es:List Ent) (o:Option Nat) (w:World) (e:Ending) (w':World):Prop:=Below w.heap.size w w'/\
 ((o=none/\e=.returned (.tuple #[clsZ,.bool false]))\/∃ i x v,o=some i/\es[i]? = some x/\e=.returned (.tuple #[v,.bool true])/\ClsR (fun k=>w.heap.size<=k) w' x.cls v)
theorem gett_any {A:Nat->Prop} {B:Nat->Nat} {T mb:Nat} {es:List Ent} {w0:World} (hT:Tab A w0 T mb B es) (hsm:∀ (i:Nat) (e:Ent),es[i]? = some e->e.cls.Small) (n:List UInt8) (hn:n.length<=9223372036854775807) (w:World) (hw:Below w0.heap.size w0 w) :
  Calls Tryz.prog 26 #[.pointer (some ⟨T,0,none⟩),.string (S n)] w (GetG6 es (placeE es n) w):=by
 have hb0:Below w.heap.size w (w.alloc (.cells #[.string ⟨#[]⟩,.string ⟨#[]⟩,.slice none 0 0,.bool false,.bool false,.bool false,.slice none 0 0,.slice none 0 0] 26)):=below_alloc (Below.refl _ _) _;have hx:=Box.new w #[.string ⟨#[]⟩,.string ⟨#[]⟩,.slice none 0 0,.bool false,.bool false,.bool false,.slice none 0 0,.slice none 0 0] 26;generalize hW:w.alloc (.cells #[.string ⟨#[]⟩,.string ⟨#[]⟩,.slice none 0 0,.bool false,.bool false,.bool false,.slice none 0 0,.slice none 0 0] 26)=W at hb0 hx;have HTW:=Hd (hT.below (hw.trans (hb0.mono hw.size)));have c0:W.cell? ⟨T,0,none⟩=some (.map (some mb)):=HTW.out.box.cell 0 rfl;have hlk:=HTW.out.look n hn;cases hp:placeE es n with
 | none=>
  rw [hp,ptrV_none] at hlk;obtain ⟨f0,f1,f2,f3,f4,f5,f6,f7⟩:=free8 hx;obtain ⟨k0,k1,k2,k3,k4,k5,k6,k7⟩:=cells8 hx;obtain ⟨y1,y2⟩:=set8 hx (.string ⟨#[]⟩) (.string ⟨#[]⟩) (.slice none 0 0) (.bool false) (.bool false) (.bool false) (.slice none 0 0) (.slice none 0 0);obtain ⟨X0,hX0⟩:∃ X0,X0=w.heap.size:=⟨_,rfl⟩
  have hle:w.heap.size<=X0:=by omega
  rw [←hX0] at f0 f1 f2 f3 f4 f5 f6 f7 k0 k1 k2 k3 k4 k5 k6 k7 y1 y2;have HY:=Hd y1;have HB:=Hd (hb0.trans (y2.below hb0.size (fun k (q:k=X0)=>by omega)));clear hT hw hsm hp hb0 hx HTW y1 y2;go_enter Tryz.func26,Tryz.ntmps26
  go_upto_region 1 with fail
  rw [←hX0];clear hW hX0;go_wp2;have l:=load_box (P:=Tryz.prog) (ty:=26) HY.out Tryz.underlying26 rfl sizec_cls;refine bodyPost_ret (v:=.tuple #[clsZ,.bool false]) ?_ rfl ⟨HB.out,.inl ⟨rfl,rfl⟩⟩;simp only [results,Tryz.results26];simp [asAddr,l,clsZ]
 | some i=>
  obtain ⟨x,hx2⟩:∃ x,es[i]? = some x:=⟨_,List.getElem?_eq_getElem (placeE_lt hp)⟩
  rw [hp,ptrV_some] at hlk;obtain ⟨lv,fv,mv,sv,hbx,hl,hf,hm,_⟩:=HTW.out.ent i x hx2;have HCP:=Hd (fun v hv=>cp_cls (A:=A) x.cls v W hv (hsm i x hx2));have hv:ClsR A W x.cls (.agg #[.string (S x.cls.name),.string (S x.cls.sup),lv,.bool x.cls.itf,.bool x.cls.abs,.bool x.cls.fin,fv,mv]):=⟨_,_,_,rfl,hl,hf,hm⟩;obtain ⟨lo,lc,rfl⟩:=hl.shape;obtain ⟨fo,fc,rfl⟩:=hf.shape;obtain ⟨mo,mc,rfl⟩:=hm.shape;have HC:=Hd (HCP.out _ hv);have HB0:=Hd hb0;have HX:=Hd hx;have q1:W.cell? ⟨B i,1,none⟩=some (.string (S x.cls.name)):=hbx.cell 1 rfl;have q2:W.cell? ⟨B i,2,none⟩=some (.string (S x.cls.sup)):=hbx.cell 2 rfl;have q3:W.cell? ⟨B i,3,none⟩=some (.slice lo x.cls.like.length lc):=hbx.cell 3 rfl;have q4:W.cell? ⟨B i,4,none⟩=some (.bool x.cls.itf):=hbx.cell 4 rfl;have q5:W.cell? ⟨B i,5,none⟩=some (.bool x.cls.abs):=hbx.cell 5 rfl;have q6:W.cell? ⟨B i,6,none⟩=some (.bool x.cls.fin):=hbx.cell 6 rfl;have q7:W.cell? ⟨B i,7,none⟩=some (.slice fo x.cls.flds.length fc):=hbx.cell 7 rfl;have q8:W.cell? ⟨B i,8,none⟩=some (.slice mo x.cls.mths.length mc):=hbx.cell 8 rfl;have HI:=Hd hx2;clear hT hw hsm hp hb0 hx hx2 hbx hl hf hm hv HCP HTW;go_enter Tryz.func26,Tryz.ntmps26
  go_upto_region 1 with fail
  clear hW
  go_wp2_with fail
  with_reducible refine HC.out.mono ?_
  rintro e w1 ⟨v',rfl,hv',hb1⟩;obtain ⟨l2,f2,m2,rfl,hl2,hf2,hm2⟩:=hv';obtain ⟨lo2,lc2,rfl⟩:=hl2.shape;obtain ⟨fo2,fc2,rfl⟩:=hf2.shape;obtain ⟨mo2,mc2,rfl⟩:=hm2.shape;have x1:=HX.out.below hb1;have hxl:=x1.lt;obtain ⟨g0,g1,g2,g3,g4,g5,g6,g7⟩:=free8 x1;obtain ⟨k0,k1,k2,k3,k4,k5,k6,k7⟩:=cells8 x1;obtain ⟨y1,y2⟩:=set8 x1 (.string (S x.cls.name)) (.string (S x.cls.sup)) (.slice lo2 x.cls.like.length lc2) (.bool x.cls.itf) (.bool x.cls.abs) (.bool x.cls.fin) (.slice fo2 x.cls.flds.length fc2) (.slice mo2 x.cls.mths.length mc2);have hXW:w.heap.size<W.heap.size:=HX.out.lt;have off:∀ k,W.heap.size<=k->¬ k=w.heap.size:=fun k hk q=>by omega
  have r1:=StrR.st.srcMono (A':=fun k=>w.heap.size<=k) (StrR.st.src hl2 y2 off) (fun k _ (hk:W.heap.size<=k)=>by show w.heap.size<=k;omega);have r2:=FldR.st.srcMono (A':=fun k=>w.heap.size<=k) (FldR.st.src hf2 y2 off) (fun k _ (hk:W.heap.size<=k)=>by show w.heap.size<=k;omega);have r3:=MthR.st.srcMono (A':=fun k=>w.heap.size<=k) (MthR.st.src hm2 y2 off) (fun k _ (hk:W.heap.size<=k)=>by show w.heap.size<=k;omega);have hbb:=HB0.out.trans (hb1.mono HB0.out.size);have HB:=Hd (hbb.trans (y2.below hbb.size (fun k (q:k=w.heap.size)=>by omega)));have HR:=Hd (And.intro r1 (And.intro r2 r3));have HY:=Hd y1;clear hl2 hf2 hm2 x1 hxl y1 y2 hXW off r1 r2 r3 hbb hb1 q1 q2 q3 q4 q5 q6 q7 q8 HC HX HB0;obtain ⟨X0,hX0⟩:∃ X0,X0=w.heap.size:=⟨_,rfl⟩
  rw [←hX0] at g0 g1 g2 g3 g4 g5 g6 g7 k0 k1 k2 k3 k4 k5 k6 k7 HY ⊢;have HX0:=Hd hX0;clear hX0;go_wp2;have l:=load_box (P:=Tryz.prog) (ty:=26) HY.out Tryz.underlying26 rfl sizec_cls;have hX0:=HX0.out;subst hX0;refine bodyPost_ret (v:=.tuple #[.agg #[.string (S x.cls.name),.string (S x.cls.sup),.slice lo2 x.cls.like.length lc2,.bool x.cls.itf,.bool x.cls.abs,.bool x.cls.fin,.slice fo2 x.cls.flds.length fc2,.slice mo2 x.cls.mths.length mc2],.bool true]) ?_ rfl ⟨HB.out,.inr ⟨i,x,_,rfl,HI.out,rfl,_,_,_,rfl,HR.out.1,HR.out.2.1,HR.out.2.2⟩⟩;simp only [results,Tryz.results26];simp [asAddr,l]
theorem infon_str:(Tryz.prog.info? 9).map (fun i=>(i.zero,i.size,i.bytes))=some (some (.string ⟨#[]⟩),1,16):=by kernel_rfl
def nmsL (es:List Ent):List (List UInt8):=es.map fun e=>e.cls.name
def NamesG (es:List Ent) (w:World) (e:Ending) (w':World):Prop:=∃ v us,e=.returned v/\TRow 1 9 StrR w.heap.size w' v (nmsL es) us/\Below w.heap.size w w'
theorem names_any {A:Nat->Prop} {B:Nat->Nat} {T mb:Nat} {es:List Ent} {w0:World} (hT:Tab A w0 T mb B es) (hU:∀ (i:Nat) (e:Ent),es[i]? = some e->placeE es e.cls.name=some i) (hlen:es.length<=1048576) (w:World) (hw:Below w0.heap.size w0 w) :
  Calls Tryz.prog 25 #[.pointer (some ⟨T,0,none⟩)] w (NamesG es w):=by
 obtain ⟨j0,hji,hz0,hz1,hz2⟩:=info_parts infon_str;have HO:=Hd (inorder_any hT hU hlen w hw);have HT:=Hd (hT.below hw);obtain ⟨n,hn⟩:∃ n,n=es.length:=⟨_,rfl⟩
 unfold OrderG at HO;rw [←hn] at HO hlen;have HN:=Hd hn;clear hT hU hw hn;go_enter Tryz.func25,Tryz.ntmps25
 go_wp2_with fail
 with_reducible refine HO.out.mono ?_
 rintro e w1 ⟨g,rfl,hg,hrow,hb1⟩;have HROW:=Hd hrow;have HB1:=Hd hb1;have HGL:Hid (g<w1.heap.size):=Hd hrow.lt;clear hg hrow hb1 HO;go_wp2
 go_loopw [3,9] (fun v3 v9 wr=>∃ (k:Nat) (us:List Value),k<=n/\v9=.int .i64 k/\TRow 1 9 StrR w1.heap.size wr v3 (nmsL (es.take k)) us/\Below w1.heap.size w1 wr/\MRow wr g n 94 ((List.range n).map (entV B))) (fun _ v9 _=>n - (intOf v9).toNat)
 case atStart=>exact ⟨0,[],Nat.zero_le _,rfl,TRow.nil _ _,Below.refl _ _,HROW.out⟩
 case round=>
  obtain ⟨k,us,hk,rfl,hir,hbel,hrw⟩:=hrel;have HIR:=Hd hir;have HB:=Hd hbel;have HRW:=Hd hrw;have hlen2:(nmsL (es.take k)).length=k:=by unfold nmsL;rw [List.length_map,List.length_take,←HN.out,Nat.min_eq_left hk]
  obtain ⟨ao,cp,rfl⟩:=hir.shape;rw [hlen2];have HLN:=Hd hlen2;clear hir hbel hrw hlen2;by_cases hlt:k<n
  ·obtain ⟨x,hx⟩:∃ x,es[k]? = some x:=⟨_,List.getElem?_eq_getElem (by rw [←HN.out];exact hlt)⟩
   obtain ⟨_,_,_,_,hbx,_⟩:=(HT.out.below (HB1.out.trans (HB.out.mono HB1.out.size))).ent k x hx;have HTK:Hid (nmsL (es.take (k+1))=nmsL (es.take k)++[x.cls.name]):=Hd (by unfold nmsL;rw [List.take_add_one,hx,List.map_append];rfl);have c0:wr.cell? ⟨g,k,none⟩=some (.pointer (some ⟨B k,0,none⟩)):=by
    rw [HRW.out.at_ k hlt,List.getElem?_map,List.getElem?_range hlt];rfl
   have c1:wr.cell? ⟨B k,1,none⟩=some (.string (S x.cls.name)):=hbx.cell 1 rfl;generalize x.cls.name=nm at HTK c1;clear hbx hx;have hlt':(k:Int)<(n:Int):=by omega
   have hk0:(0:Int)<=(k:Int):=by omega
   have hbA:Below wr.heap.size wr (wr.alloc (.cells #[.string (S nm)] 9)):=(Below.refl _ wr).alloc (Nat.le_refl _) _;have HRT:=Hd (HIR.out.below StrR.st hbA);have HNW:=Hd (Box.new wr #[.string (S nm)] 9);have HRO:=Hd HRT.out.row;rw [HLN.out] at HRO;have HBA:=Hd (HB.out.trans (hbA.mono HB.out.size));have HRA:=Hd (HRW.out.keep (Only.ofBelow (S:=fun _=>False) hbA) id);clear hbA
   go_wp2_with (at_builtin;refine wpList_append_fine _ rfl _ _ 22 rfl 9 j0 (.string ⟨#[]⟩) 1 16 Tryz.underlying22 hji hz0 hz1 hz2 rfl (by decide) _ _ _ rfl HRO.out ⟨wr.heap.size,0,none⟩ 1 1 [.string (S nm)] rfl rfl (by intro j q hj;rw [Addr.add_mid,Nat.zero_add];exact HNW.out.cell j (by rw [←hj];simp)) (by intro q hq;simp at hq;rcases hq with rfl;rfl) ?c3 ?c4 ?_)
   case c3=>unfold maxLen;omega
   case c4=>omega
   intro v' w3 hown' hgrow;have hg':Grew (wr.alloc (.cells #[.string (S nm)] 9)) (.slice ao (nmsL (es.take k)).length cp) w3 v':=by rw [HLN.out];exact hgrow
   have ir4:=HRT.out.snoc StrR.st hg' HBA.out.size (x:=nm) (u:=.string (S nm)) rfl rfl (by rw [HLN.out];exact hown');rw [←HTK.out] at ir4;have IR4:=Hd ir4;have HB4:=Hd (HBA.out.trans (hg'.only.below HBA.out.size (fun g hg=>HRT.out.own g hg)));have HR4:Hid (MRow w3 g n 94 ((List.range n).map (entV B))):=Hd (HRA.out.keep hg'.only (fun q=>by have h1:=HRT.out.own g q;have h2:=HGL.out;omega));clear ir4 hgrow hown' hg' c0 c1;go_wp2
   go_roundw
   case rel=>exact ⟨k+1,_,by omega,by go_num,IR4.out,HB4.out,HR4.out⟩
   case measure=>simp [intOf];omega
  ·obtain rfl:k=n:=by omega
   go_wp2;go_ret;have h:nmsL (es.take k)=nmsL es:=by rw [HN.out,List.take_length]
   exact ⟨_,us,rfl,by have q:=HIR.out;rw [h] at q;rw [←HLN.out,h];exact q.lower StrR.st HB1.out.size,HB1.out.trans (HB.out.mono HB1.out.size)⟩
theorem NewBad.det {cs:List Cls} {i i':Int} {z z':Nat} (h:NewBad cs i z) (h':NewBad cs i' z'):i=i'/\z=z':=by
 rcases h with ⟨k,c,rfl,hc,rfl,hn,hl⟩|⟨ha,h⟩
 ·rcases h' with ⟨k',c',rfl,hc',rfl,hn',hl'⟩|⟨ha',_⟩
  ·rcases Nat.lt_trichotomy k k' with q|q|q
   ·exact absurd (hl' k c q hc) hn
   ·subst q;rw [hc] at hc';obtain rfl:=Option.some.inj hc';exact ⟨rfl,rfl⟩
   ·exact absurd (hl k' c' q hc') hn'
  ·exact absurd (ha' c (List.mem_of_getElem? hc)) hn
 rcases h' with ⟨k',c',rfl,hc',rfl,hn',hl'⟩|⟨_,h'⟩
 ·exact absurd (ha c' (List.mem_of_getElem? hc')) hn'
 rcases h with ⟨k,c,rfl,hc,rfl,hp,hl⟩|⟨hb,h⟩
 ·rcases h' with ⟨k',c',rfl,hc',rfl,hp',hl'⟩|⟨hb',_⟩
  ·rcases Nat.lt_trichotomy k k' with q|q|q
   ·rw [hl' k c q hc] at hp;cases hp
   ·subst q;exact ⟨rfl,rfl⟩
   ·rw [hl k' c' q hc'] at hp';cases hp'
  ·rw [hb' k c hc] at hp;cases hp
 rcases h' with ⟨k',c',rfl,hc',rfl,hp',hl'⟩|⟨_,h'⟩
 ·rw [hb k' c' hc'] at hp';cases hp'
 have cno:∀ {k:Nat} {c:Cls} {z:Nat},(z=61/\upE (allE0 cs) c.sup=none\/z=62/\(upE (allE0 cs) c.sup).isSome=true/\likesOk (allE0 cs) c.like=false)->¬ ((upE (allE0 cs) c.sup).isSome=true/\likesOk (allE0 cs) c.like=true):=by
  rintro k c z (⟨_,h⟩|⟨_,_,h⟩) ⟨h1,h2⟩
  ·rw [h] at h1;cases h1
  ·rw [h] at h2;cases h2
 rcases h with ⟨k,c,rfl,hc,hp,hl⟩|⟨hlin,h⟩
 ·rcases h' with ⟨k',c',rfl,hc',hp',hl'⟩|⟨hlin',_⟩
  ·rcases Nat.lt_trichotomy k k' with q|q|q
   ·exact absurd (hl' k c q hc) (cno (k:=k) hp)
   ·subst q;rw [hc] at hc';obtain rfl:=Option.some.inj hc';refine ⟨rfl,?_⟩;rcases hp with ⟨rfl,h1⟩|⟨rfl,h1,h2⟩ <;> rcases hp' with ⟨rfl,h3⟩|⟨rfl,h3,h4⟩
    ·rfl
    ·rw [h1] at h3;cases h3
    ·rw [h3] at h1;cases h1
    ·rfl
   ·exact absurd (hl k' c' q hc') (cno (k:=k) hp')
  ·exact absurd ⟨hlin'.ups c (List.mem_of_getElem? hc),hlin'.likes c (List.mem_of_getElem? hc)⟩ (cno (k:=k) hp)
 rcases h' with ⟨k',c',rfl,hc',hp',hl'⟩|⟨_,h'⟩
 ·exact absurd ⟨hlin.ups c' (List.mem_of_getElem? hc'),hlin.likes c' (List.mem_of_getElem? hc')⟩ (cno (k:=k') hp')
 rcases h with ⟨h0,rfl,rfl⟩|⟨h0,k,x,hx,rfl,rfl,hn,hl⟩
 ·rcases h' with ⟨_,rfl,rfl⟩|⟨h1,_⟩
  ·exact ⟨rfl,rfl⟩
  ·omega
 rcases h' with ⟨h1,_⟩|⟨_,k',x',hx',rfl,rfl,hn',hl'⟩
 ·omega
 rcases Nat.lt_trichotomy k k' with q|q|q
 ·exact absurd (hl' k x q hx) hn
 ·subst q;rw [hx] at hx';obtain rfl:=Option.some.inj hx';exact ⟨rfl,rfl⟩
 ·exact absurd (hl k' x' q hx') hn'
theorem Wise.top {es:List Ent} (W:Wise es) {i:Nat} {e:Ent} {n:List UInt8} (hp:placeE es n=some i) (he:es[i]? = some e):(e.up=none->n=objL)/\((∃ j,e.up=some j)->n ≠ objL):=by
 obtain ⟨e2,h1,h2⟩:=placeE_name hp;rw [he] at h1;obtain rfl:=Option.some.inj h1;refine ⟨fun hu=>?_,fun ⟨j,hj⟩ hn=>?_⟩
 ·by_cases h0:i=0
  ·subst h0;rw [W.obj] at he;obtain rfl:=Option.some.inj he;exact h2.symm
  ·obtain ⟨j,hj⟩:=W.up i e he h0;rw [hu] at hj;cases hj
 ·rw [hn,W.objAt] at hp;obtain rfl:=Option.some.inj hp;rw [W.obj] at he;obtain rfl:=Option.some.inj he;cases hj
theorem rprint_any {A:Nat->Prop} (cs:List Cls) (hL:Lined cs) (W:Wise (newT cs)) (sv:Value) :
  ∀ (L:List Nat) (n:List UInt8) (w:World),Chain (newT cs) L (placeE (newT cs) n)->(printL (newT cs) L).length<=140737488355328->n.length<=140737488355328->Src 8 ClsR A w sv (allR cs)->Calls Tryz.prog 29 #[sv,.string (S n)] w (SaidS (printL (newT cs) L) w):=by
 intro L;induction L with
 | nil=>
  intro n w hc _ _ hs;have hp:placeE (newT cs) n=none:=hc;have HF:=Hd (rfindE_any cs hL.len sv n w hs);unfold AtIdx at HF;rw [hp] at HF;obtain ⟨so,sc,rfl⟩:=hs.shape;have i0:idxV none=(-1:Int):=rfl;rw [i0] at HF;clear hs hc hp i0;unfold SaidS;go_enter Tryz.func29,Tryz.ntmps29
  go_wp2_with fail
  with_reducible refine HF.out.mono ?_
  rintro e w1 ⟨rfl,hb⟩;have B1:=Hd hb;clear hb;go_wp2;go_ret;exact ⟨rfl,B1.out⟩
 | cons i L ih=>
  intro n w hc hl hnl hs;obtain ⟨hp,en,hen,hcl⟩:=hc;have HF:=Hd (rfindE_any cs hL.len sv n w hs);unfold AtIdx at HF;rw [hp] at HF;have i0:idxV (some i)=(i:Int):=rfl;rw [i0] at HF;have hx:(allR cs)[i]? = some en.cls:=by rw [allR_at,hen];rfl
  have him:i<(allR cs).length:=(List.getElem?_eq_some_iff.1 hx).1;have htop:=W.top hp hen;have hna:nmE (newT cs) i=n:=by
   obtain ⟨e2,h1,h2⟩:=placeE_name hp;rw [hen] at h1;obtain rfl:=Option.some.inj h1;rw [nmE_eq hen,h2]
  have hsup:=hL.sup hen;have hfa:fldsAt (newT cs) i=en.cls.flds:=by unfold fldsAt;rw [hen]
  have i1:(0:Int)<=(i:Int):=by omega
  unfold SaidS;have e0:=S_toList n;cases L with
  | nil=>
   have hno:=htop.1 hcl;have h0:(n == [79,98,106,101,99,116])=true:=by rw [hno];rfl
   have h1:decide (n=[79,98,106,101,99,116])=true:=decide_eq_true hno;rw [show printL (newT cs) [i]=[] from rfl];obtain ⟨so,sc,rfl⟩:=hs.shape;clear hs hp hcl hx him htop hna hsup hfa ih hl hnl hen i0 hno;go_enter Tryz.func29,Tryz.ntmps29
   go_wp2_with fail
   with_reducible refine HF.out.mono ?_
   rintro e w1 ⟨rfl,hb⟩;have B1:=Hd hb;clear hb;go_wp2;go_ret;exact ⟨rfl,B1.out⟩
  | cons j L'=>
   have hu:en.up=some j:=hcl.1;have hno:=htop.2 ⟨j,hu⟩;have h0:(n == [79,98,106,101,99,116])=false:=beq_eq_false_iff_ne.2 hno;have h1:decide (n=[79,98,106,101,99,116])=false:=decide_eq_false hno;have hpp:printL (newT cs) (i :: j :: L')=(n++[40])++printL (newT cs) (j :: L')++[41]++en.cls.flds.flatMap fldText++[46]:=by
    show (nmE (newT cs) i++[40])++printL (newT cs) (j :: L')++[41]++(fldsAt (newT cs) i).flatMap fldText++[46]=_
    rw [hfa,hna]
   rw [hpp] at hl ⊢;have hsl:en.cls.sup.length<=140737488355328:=by
    rw [hu] at hsup;obtain ⟨e2,q1,q2⟩:=placeE_name hsup;have:=W.sh.nm j e2 q1;rw [←q2];omega
   have HC:Hid (∀ V,Below w.heap.size w V->Calls Tryz.prog 29 #[sv,.string (S en.cls.sup)] V (fun e w'=>e=.returned (.string (S (printL (newT cs) (j :: L'))))/\Below V.heap.size V w')):=Hd (fun V hV=>ih en.cls.sup V (by rw [hsup];exact hcl) (by simp at hl ⊢;omega) hsl (ClsR.st.below hs hV));generalize printL (newT cs) (j :: L')=P at HC hl ⊢;have HS:=Hd hs;obtain ⟨so,sc,rfl⟩:=hs.shape;obtain ⟨m,hm⟩:∃ m,m=(allR cs).length:=⟨_,rfl⟩
   rw [←hm] at HF HC HS him ⊢;have i2:(i:Int)<(m:Int):=by omega
   have HX:=Hd hx;have HL:=Hd hl;have HCC:Hid (∀ V,Below w.heap.size w V->∃ b1 o1 fo fc,(so,sc)=(some ⟨b1,o1,none⟩,sc)/\V.cell? ⟨b1,o1+i * 8+1,none⟩=some (.string (S en.cls.sup))/\V.cell? ⟨b1,o1+i * 8+6,none⟩=some (.slice fo en.cls.flds.length fc)/\Src 3 FldR Anyw V (.slice fo en.cls.flds.length fc) en.cls.flds):=Hd (fun V hV=>by
    obtain ⟨b1,o1,v,rfl,hv,_,hcl⟩:=Src.elem (ClsR.st.below HS.out hV) i en.cls HX.out;obtain ⟨lv,fv,mv,rfl,_,hfv,_⟩:=hv;obtain ⟨fo,fc,rfl⟩:=hfv.shape;exact ⟨b1,o1,fo,fc,rfl,hcl 1 _ rfl,hcl 6 _ rfl,FldR.st.srcMono hfv (fun _ _ _=>trivial)⟩)
   obtain ⟨b1,o1,v,rfl,hv,_,hcl⟩:=Src.elem hs i en.cls hx;obtain ⟨lv,fv,mv,rfl,_,hfv,_⟩:=hv;obtain ⟨fo,fc,rfl⟩:=hfv.shape;have HFV:=Hd hfv;have HCE:Hid (∀ V,Below w.heap.size w V->V.cell? ⟨b1,o1+i * 8+1,none⟩=some (.string (S en.cls.sup))/\V.cell? ⟨b1,o1+i * 8+6,none⟩=some (.slice fo en.cls.flds.length fc)):=Hd (fun V hV=>
    have ho:=Only.ofBelow (S:=fun _=>False) hV
    ⟨ho.cell (a:=⟨b1,o1+i * 8+1,none⟩) (hcl 1 _ rfl) id,ho.cell (a:=⟨b1,o1+i * 8+6,none⟩) (hcl 6 _ rfl) id⟩)
   have hfe:=W.sh.fl i en hen;generalize en.cls.flds=fl at HL HFV HCE hfe ⊢;generalize en.cls.sup=su at HC HCE;obtain ⟨q,hq⟩:∃ q,q=fl.length:=⟨_,rfl⟩
   rw [←hq] at HFV HCE hfe;have HQ:=Hd hq;clear hs hm hx him hl hnl hsup hcl hen ih hp i0 HCC HX HS hfv hu hna hfa hno htop hpp hsl hq;have hov:¬ (9223372036854775807<(S n).size+1):=by rw [S_size];have:=HL.out;simp at this;omega
   have hov2:¬ (9223372036854775807<(S n).size+1+(S P).size):=by rw [S_size,S_size];have:=HL.out;simp at this;omega
   have hov3:¬ (9223372036854775807<(S n).size+1+(S P).size+1):=by rw [S_size,S_size];have:=HL.out;simp at this;omega
   have hcat:S n++(⟨#[40]⟩:ByteArray)++S P++(⟨#[41]⟩:ByteArray)=S (n++[40]++P++[41]):=by
    rw [show S n++(⟨#[40]⟩:ByteArray)=S (n++[40]) from S_append n [40],S_append,show S (n++[40]++P)++(⟨#[41]⟩:ByteArray)=S (n++[40]++P++[41]) from S_append _ [41]]
   go_enter Tryz.func29,Tryz.ntmps29
   go_wp2_with fail
   with_reducible refine HF.out.mono ?_
   rintro e w1 ⟨rfl,hb⟩;have B1:=Hd hb;obtain ⟨g1,g2⟩:=HCE.out w1 hb;clear hb HF
   go_wp2_with fail
   with_reducible refine (HC.out w1 B1.out).mono ?_
   rintro e w2 ⟨rfl,hb⟩;have B2:=Hd (B1.out.trans (hb.mono B1.out.size));clear hb g1 g2 HC;go_wp2;clear h0 h1 e0;generalize hbase:n++[40]++P++[41]=base at HL;have HBA:=Hd hbase;have HBL:Hid (base.length+(fl.flatMap fldText).length+1<=140737488355328):=Hd (by have:=HL.out;simp at this ⊢;omega);clear hbase hov hov2 hov3
   go_loopw [6,7] (fun v6 v7 wr=>∃ k:Nat,k<=q/\v7=.int .i64 k/\v6=.string (S (base++(fl.take k).flatMap fldText))/\Below w.heap.size w wr) (fun _ v7 _=>q - (intOf v7).toNat)
   case atStart=>exact ⟨0,Nat.zero_le _,rfl,by rw [←HBA.out];simp,B2.out⟩
   case round=>
    obtain ⟨k,hk,rfl,rfl,hbw⟩:=hrel;have BW:=Hd hbw;obtain ⟨_,g2⟩:=HCE.out wr hbw;clear hbw;by_cases hlt:k<q
    ·obtain ⟨x,hx⟩:∃ x,fl[k]? = some x:=⟨_,List.getElem?_eq_getElem (by rw [←HQ.out];exact hlt)⟩
     obtain ⟨b4,o4,v4,rfl,hv,_,hcl⟩:=Src.elem (FldR.st.below HFV.out BW.out) k x hx;obtain rfl:=hv;have d0:wr.cell? ⟨b4,o4+k * 3,none⟩=some (.string (S x.name)):=hcl 0 _ rfl;have d1:wr.cell? ⟨b4,o4+k * 3+1,none⟩=some (.string (S x.kind)):=hcl 1 _ rfl;have d2:wr.cell? ⟨b4,o4+k * 3+2,none⟩=some (.bool x.tr):=hcl 2 _ rfl;have HSN:=Hd (pr_snoc fl k x hx);have HLE:=Hd (pr_le fl (k+1));have hk0:(0:Int)<=k:=by omega
     have hkn:(k:Int)<(q:Int):=by omega
     have BA:=Hd (BW.out.trans ((below_alloc (Below.refl wr.heap.size wr) (.cells #[.string (S x.name),.string (S x.kind),.bool x.tr] 62)).mono BW.out.size));obtain ⟨acc,hacc⟩:∃ acc,acc=base++(fl.take k).flatMap fldText:=⟨_,rfl⟩
     rw [←hacc];have HAC:=Hd hacc;clear hcl hx hacc;obtain ⟨xn,xk,xt⟩:=x;cases xt with
     | true=>
      have HE:Hid (acc=base++(fl.take (k+1)).flatMap fldText):=Hd (by rw [HAC.out,HSN.out,show fldText ⟨xn,xk,true⟩=[] from rfl,List.append_nil]);go_wp2
      go_roundw
      case rel=>exact ⟨k+1,by omega,by go_num,by rw [HE.out],BA.out⟩
      case measure=>simp [intOf];omega
     | false=>
      have hft:fldText ⟨xn,xk,false⟩=32 :: (xn++(58 :: xk)):=rfl;rw [hft] at HSN;have hcat2:S acc++((⟨#[32]⟩:ByteArray)++S xn++(⟨#[58]⟩:ByteArray)++S xk)=S (acc++(32 :: (xn++(58 :: xk)))):=by
       rw [show (⟨#[32]⟩:ByteArray)++S xn=S (32 :: xn) from S_append [32] xn,show S (32 :: xn)++(⟨#[58]⟩:ByteArray)=S (32 :: xn++[58]) from S_append _ [58],S_append,S_append];simp
      have hxl:acc.length+(32 :: (xn++(58 :: xk))).length<=140737488355328:=by
       have h1:=HLE.out;rw [HSN.out,List.length_append] at h1;have:=HBL.out;rw [HAC.out,List.length_append];omega
      have hb1:¬ (9223372036854775807<1+(S xn).size):=by rw [S_size];simp at hxl;omega
      have hb2:¬ (9223372036854775807<1+(S xn).size+1):=by rw [S_size];simp at hxl;omega
      have hb3:¬ (9223372036854775807<1+(S xn).size+1+(S xk).size):=by rw [S_size,S_size];simp at hxl;omega
      have hb4:¬ (9223372036854775807<(S acc).size+(1+(S xn).size+1+(S xk).size)):=by rw [S_size,S_size,S_size];simp at hxl;omega
      have HE:Hid (acc++(32 :: (xn++(58 :: xk)))=base++(fl.take (k+1)).flatMap fldText):=Hd (by rw [HAC.out,HSN.out,List.append_assoc]);clear hft hxl;go_wp2
      go_roundw
      case rel=>exact ⟨k+1,by omega,by go_num,by rw [←HE.out,←hcat2],BA.out⟩
      case measure=>simp [intOf];omega
    ·obtain rfl:k=q:=by omega
     have htk:fl.take k=fl:=by rw [HQ.out];exact List.take_length
     rw [htk];have hcat3:S (base++fl.flatMap fldText)++(⟨#[46]⟩:ByteArray)=S (base++fl.flatMap fldText++[46]):=S_append _ [46];have hb5:¬ (9223372036854775807<(S (base++fl.flatMap fldText)).size+1):=by rw [S_size];have:=HBL.out;simp at this ⊢;omega
     have HFIN:Hid (base++fl.flatMap fldText++[46]=n++[40]++P++[41]++fl.flatMap fldText++[46]):=Hd (by rw [←HBA.out]);generalize base++fl.flatMap fldText=acc at hcat3 hb5 HFIN ⊢;go_wp2;go_ret;exact ⟨by rw [←HFIN.out];rfl,BW.out⟩
theorem right_short {l:List UInt8} (h:rightB l=true):l.length<=38:=by
 have h1:=(nameB_pos (right_base h)).2;rw [baseL_length] at h1;unfold rightB at h;simp at h
 omega
theorem NewOk.fld_small {cs:List Cls} (h:NewOk cs) (i:Nat):∀ f ∈ fldsAt (newT cs) i,(fldText f).length<=100:=by
 intro f hf;unfold fldsAt at hf;cases he:(newT cs)[i]? with
 | none=>rw [he] at hf;cases hf
 | some e=>
  rw [he] at hf;rcases newT_at he with ⟨h1,h2⟩|⟨h1,c,h2,rfl⟩
  ·have h3:startL.all (fun e=>e.cls.flds.all fun f=>decide ((fldText f).length<=100))=true:=by decide
   exact of_decide_eq_true (List.all_eq_true.1 (List.all_eq_true.1 h3 e (List.mem_of_getElem? h2)) f hf)
  ·have hok:=(h.lined.good c (List.mem_of_getElem? h2)).flds f hf;unfold Fld.ok memB at hok;simp only [Bool.and_eq_true] at hok;have q1:=(nameB_pos hok.1.1).2;have q2:=right_short hok.2;unfold fldText;split
   ·simp
   ·simp only [List.length_cons,List.length_append];omega
theorem flat_short (l:List Fld) (B:Nat) (h:∀ f ∈ l,(fldText f).length<=B):(l.flatMap fldText).length<=l.length * B:=by
 induction l with
 | nil=>simp
 | cons f l ih=>
  have h0:=h f List.mem_cons_self;have h1:=ih (fun x hx=>h x (List.mem_cons_of_mem _ hx));rw [List.flatMap_cons,List.length_append,List.length_cons,Nat.succ_mul];omega
theorem NewOk.print_le {cs:List Cls} (h:NewOk cs):∀ L:List Nat,(printL (newT cs) L).length<=L.length * 4000
 | []=>by simp [printL]
 | [x]=>by simp [printL]
 | x :: y :: l=>by
  have ih:=NewOk.print_le h (y :: l);have h1:=h.shape.nmE_le x;have h2:=flat_short (fldsAt (newT cs) x) 100 (h.fld_small x);have h3:(fldsAt (newT cs) x).length<=32:=by
   unfold fldsAt;cases he:(newT cs)[x]? with
   | none=>simp
   | some e=>exact h.shape.fl x e he
  show ((nmE (newT cs) x++[40])++printL (newT cs) (y :: l)++[41]++(fldsAt (newT cs) x).flatMap fldText++[46]).length<=_
  simp only [List.length_append,List.length_cons,List.length_nil] at ih ⊢;omega
theorem NewOk.print_len {cs:List Cls} (h:NewOk cs) (n:List UInt8):(printE (newT cs) n).length<=140737488355328:=by
 have h1:=h.print_le (lineE (newT cs) (placeE (newT cs) n));have h2:=lineF_len (newT cs) (newT cs).length (placeE (newT cs) n);have h3:=h.lined.len;rw [newT_len] at h2;unfold printE;unfold lineE at h1 ⊢;rw [newT_len] at h1 ⊢;omega
theorem hierMakes_any {A:Nat->Prop} (cs:List Cls) (sv:Value) (w:World) (hs:Src 8 ClsR A w sv cs) (hT:HT6 w) (hfit:∀ c ∈ cs,c.Fit) (hheld:∀ c ∈ cs,c.held) (hlen:cs.length<=9223372036854775807) :
  Calls Tryz.prog 5 #[sv] w (Said true w):=by
 have HA:Hid (∀ W,Below w.heap.size w W->Calls Tryz.prog 22 #[] W (Said true W)):=Hd (fun W hW=>awake6_any W (hT.ft.keep hW) (hT.ct.keep hW));have HF:=Hd (few6_any cs sv w hs hfit hlen);have HN:Hid (∀ W,Below w.heap.size w W->cs.length<=12->Calls Tryz.prog 23 #[sv] W (NewG cs W)):=Hd (fun W hW hl=>new_any cs sv W (ClsR.st.below hs hW) (hT.ft.keep hW) (hT.ct.keep hW) hfit hheld (by omega));have HRN:Hid (∀ W,Below w.heap.size w W->cs.length<=12->Calls Tryz.prog 24 #[sv] W (RNewG cs W)):=Hd (fun W hW hl=>rnew_any cs sv W (ClsR.st.below hs hW) hfit hheld (by omega));have HFT:Hid (∀ i,(clsAt (newT cs) i).Fit):=Hd (fitT hfit);unfold Few6G at HF;unfold Said at HA;obtain ⟨so,sc,rfl⟩:=hs.shape;clear hs hT hfit hheld hlen;unfold Said;go_enter Tryz.func5,Tryz.ntmps5
 go_wp2_with fail
 with_reducible refine HF.out.mono ?_
 rintro e w1 ⟨b,rfl,hb12,hb1⟩;have HB1:=Hd hb1;have H12:=Hd hb12;clear hb1 hb12 HF;cases b with
 | false=>
  go_wp2_with fail
  with_reducible refine (HA.out w1 HB1.out).mono ?_
  rintro e wz0 ⟨rfl,hb⟩;have HZ0:=Hd (HB1.out.trans (hb.mono HB1.out.size));clear hb;go_wp2;go_ret;exact ⟨rfl,HZ0.out⟩
 | true=>
  have HNW:=Hd (HN.out w1 HB1.out (H12.out rfl));have HRW:Hid (∀ W,Below w.heap.size w W->Calls Tryz.prog 24 #[.slice so cs.length sc] W (RNewG cs W)):=Hd (fun W hW=>HRN.out W hW (H12.out rfl));have HTW:Hid (cs.length<=12):=Hd (H12.out rfl);clear HN HRN H12
  go_wp2_with fail
  with_reducible refine HNW.out.mono ?_
  rintro e w2 h;rcases h with ⟨i,z,hbad,rfl,hb2⟩|⟨hok,T,mb,B,rfl,htb,hb2⟩
  ·have HBD:=Hd hbad;have HB2:=Hd (HB1.out.trans (hb2.mono HB1.out.size));clear hb2 HNW;have HRC:=Hd (HRW.out w2 HB2.out);unfold RNewG at HRC
   go_wp2_with fail
   with_reducible refine HRC.out.mono ?_
   rintro e w3 h;rcases h with ⟨i',z',hbad',rfl,hb3⟩|⟨hok,_⟩
   ·obtain ⟨rfl,rfl⟩:=hbad.det hbad';have hz0:(z:Int) ≠ 0:=by have:=hbad'.ne;omega
    have hz1:((z:Int) != 0)=true:=by simpa using hz0
    have HB3:=Hd (HB2.out.trans (hb3.mono HB2.out.size));clear hb3 hbad hbad' HRC
    go_wp2_with fail
    with_reducible refine (HA.out w3 HB3.out).mono ?_
    rintro e wz0 ⟨rfl,hb⟩;have HZ0:=Hd (HB3.out.trans (hb.mono HB3.out.size));clear hb;go_wp2;go_ret;exact ⟨rfl,HZ0.out⟩
   ·exact (HBD.out.not hok).elim
  ·have HOK:=Hd hok;have HB2:=Hd (HB1.out.trans (hb2.mono HB1.out.size));have HTB:=Hd htb.tab;clear hb2 HNW htb;have HRC:=Hd (HRW.out w2 HB2.out);unfold RNewG at HRC
   go_wp2_with fail
   with_reducible refine HRC.out.mono ?_
   rintro e w3 h;rcases h with ⟨i',z',hbad',_⟩|⟨_,v,rfl,hsrc,hb3⟩
   ·exact (hbad'.not HOK.out).elim
   ·have HR:Hid (Below w2.heap.size w2 w3):=Hd hb3;have HB3:=Hd (HB2.out.trans (hb3.mono HB2.out.size));have HSA:=Hd hsrc;obtain ⟨vo,vc,rfl⟩:=hsrc.shape;obtain ⟨m,hm⟩:∃ m,m=(allR cs).length:=⟨_,rfl⟩
    rw [←hm] at HSA ⊢;have HNM:Hid (∀ W,Below w2.heap.size w2 W->Calls Tryz.prog 25 #[.pointer (some ⟨T,0,none⟩)] W (NamesG (newT cs) W)):=Hd (fun W hW=>names_any HTB.out (fun i e he=>HOK.out.wise.uq i e he) (by rw [newT_len];have:=HTW.out;omega) W hW);unfold NamesG at HNM;have HML:Hid (m=(newT cs).length):=Hd (by rw [hm,allR_len,newT_len]);have hm9:m<=20:=by rw [hm,allR_len];have:=HTW.out;omega
    clear hb3 hok hsrc HRC HRW hm
    go_wp2_with fail
    with_reducible refine (HA.out w3 HB3.out).mono ?_
    rintro e w4 ⟨rfl,hb⟩;have HR4:=Hd (HR.out.trans (hb.mono HR.out.size));have H34:=Hd hb;clear hb HA
    go_wp2_with fail
    with_reducible refine (HNM.out w4 HR4.out).mono ?_
    rintro e w5 ⟨nv,us,rfl,hv,hb⟩;have HV:=Hd (hv.src StrR.st);have HR5:=Hd (HR4.out.trans (hb.mono HR4.out.size));have H35:=Hd (H34.out.trans (hb.mono H34.out.size));obtain ⟨no,nc,rfl⟩:=hv.shape;have hnl:(nmsL (newT cs)).length=m:=by unfold nmsL;rw [List.length_map,HML.out]
    rw [hnl] at HV ⊢;clear hb hv hnl HNM;go_wp2
    go_loopw [10] (fun v10 wr=>∃ k:Nat,k<=m/\v10=.int .i64 k/\Below w5.heap.size w5 wr) (fun v10 _=>m - (intOf v10).toNat)
    case atStart=>exact ⟨0,Nat.zero_le _,rfl,Below.refl _ _⟩
    case round=>
     obtain ⟨k,hk,rfl,hbw⟩:=hrel;have BW:=Hd hbw;have BR:=Hd (HR5.out.trans (hbw.mono HR5.out.size));have B3:=Hd (H35.out.trans (hbw.mono H35.out.size));clear hbw;by_cases hlt:k<m
     ·have hkl:k<(newT cs).length:=by rw [←HML.out];exact hlt
      obtain ⟨x,hx⟩:∃ x,(newT cs)[k]? = some x:=⟨_,List.getElem?_eq_getElem hkl⟩
      have hxc:(allR cs)[k]? = some x.cls:=by rw [allR_at,hx];rfl
      have hxn:(nmsL (newT cs))[k]? = some x.cls.name:=by unfold nmsL;rw [List.getElem?_map,hx];rfl
      have hpl:placeE (newT cs) x.cls.name=some k:=HOK.out.wise.uq k x hx;have hnl:x.cls.name.length<=32:=HOK.out.wise.sh.nm k x hx;have hfx:x.cls.Fit:=by have h:=HFT.out k;rw [clsAt_eq hx] at h;exact h
      obtain ⟨b,o,u,hno,hu,_,hcl⟩:=Src.elem (StrR.st.below HV.out BW.out) k _ hxn;obtain rfl:no=some ⟨b,o,none⟩:=hno;obtain rfl:=hu;have c0:wr.cell? ⟨b,o+k,none⟩=some (.string (S x.cls.name)):=by have q:=hcl 0 _ rfl;rw [Nat.mul_one] at q;exact q
      have HGT:=Hd (gett_any HTB.out HOK.out.lined.clsSmall x.cls.name (by omega) wr BR.out);rw [hpl] at HGT;unfold GetG6 at HGT;have HXX:=Hd hx;have HXC:=Hd hxc;have HFX:=Hd hfx;have HPL:=Hd hpl;have HNL:=Hd hnl;have HC0:Hid (∀ V,Below wr.heap.size wr V->V.cell? ⟨b,o+k,none⟩=some (.string (S x.cls.name))):=Hd (fun V hV=>(Only.ofBelow (S:=fun _=>False) hV).cell (a:=⟨b,o+k,none⟩) c0 id);have hk0:(0:Int)<=(k:Int):=by omega
      have hkm:(k:Int)<(m:Int):=by omega
      clear hcl hxn hx hkl hxc hpl hnl hfx
      go_wp2_with fail
      with_reducible refine HGT.out.mono ?_
      rintro e wa ⟨hba,hca⟩;rcases hca with ⟨h,_⟩|⟨i,x',v1,h,hx',rfl,hv1⟩
      ·cases h
      ·obtain rfl:=Option.some.inj h;rw [HXX.out] at hx';obtain rfl:=Option.some.inj hx';have HV1:=Hd hv1;have HBA:=Hd hba;obtain ⟨_,_,_,rfl,⟨lo1,lc1,rfl⟩,⟨fo1,fc1,rfl⟩,⟨mo1,mc1,rfl⟩⟩:=cls_shape hv1;have hal:Below wa.heap.size wa (wa.alloc (.cells #[.string (S x.cls.name),.string (S x.cls.sup),.slice lo1 x.cls.like.length lc1,.bool x.cls.itf,.bool x.cls.abs,.bool x.cls.fin,.slice fo1 x.cls.flds.length fc1,.slice mo1 x.cls.mths.length mc1] 26)):=below_alloc (Below.refl _ _) _;have HX1:=Hd (Box.new wa #[.string (S x.cls.name),.string (S x.cls.sup),.slice lo1 x.cls.like.length lc1,.bool x.cls.itf,.bool x.cls.abs,.bool x.cls.fin,.slice fo1 x.cls.flds.length fc1,.slice mo1 x.cls.mths.length mc1] 26);have HV2:=Hd (ClsR.st.keep HV1.out (Only.ofBelow (S:=fun _=>False) hal) (fun _ _=>id));have HBB:=Hd (HBA.out.trans (hal.mono HBA.out.size));clear hba hv1 hal c0 HGT HV1 HBA
       go_upto_region 16 with fail
       generalize hWA:wa.alloc (.cells #[.string (S x.cls.name),.string (S x.cls.sup),.slice lo1 x.cls.like.length lc1,.bool x.cls.itf,.bool x.cls.abs,.bool x.cls.fin,.slice fo1 x.cls.flds.length fc1,.slice mo1 x.cls.mths.length mc1] 26)=WA at HX1 HV2 HBB ⊢;obtain ⟨bx,hbx⟩:∃ bx,bx=wa.heap.size:=⟨_,rfl⟩
       rw [←hbx] at HX1 ⊢;clear hWA hbx;have BRA:=Hd (BR.out.trans (HBB.out.mono BR.out.size));have B3A:=Hd (B3.out.trans (HBB.out.mono B3.out.size));have BWA:=Hd (BW.out.trans (HBB.out.mono BW.out.size));obtain ⟨b2,o2,u2,hvo,hu2,_,hcl2⟩:=Src.elem (ClsR.st.below HSA.out B3A.out) k x.cls HXC.out;obtain rfl:vo=some ⟨b2,o2,none⟩:=hvo;have HU2:=Hd hu2;obtain ⟨_,_,_,rfl,⟨lo2,lc2,rfl⟩,⟨fo2,fc2,rfl⟩,⟨mo2,mc2,rfl⟩⟩:=cls_shape hu2;have HSS:Hid (∀ V,Below WA.heap.size WA V->V.cell? ⟨b,o+k,none⟩=some (.string (S x.cls.name))/\V.cell? ⟨bx,0,none⟩=some (.string (S x.cls.name))/\V.cell? ⟨bx,1,none⟩=some (.string (S x.cls.sup))/\V.cell? ⟨bx,2,none⟩=some (.slice lo1 x.cls.like.length lc1)/\V.cell? ⟨bx,3,none⟩=some (.bool x.cls.itf)/\V.cell? ⟨bx,4,none⟩=some (.bool x.cls.abs)/\V.cell? ⟨bx,5,none⟩=some (.bool x.cls.fin)/\V.cell? ⟨bx,6,none⟩=some (.slice fo1 x.cls.flds.length fc1)/\V.cell? ⟨bx,7,none⟩=some (.slice mo1 x.cls.mths.length mc1)/\V.cell? ⟨b2,o2+k * 8,none⟩=some (.string (S x.cls.name))/\V.cell? ⟨b2,o2+k * 8+1,none⟩=some (.string (S x.cls.sup))/\V.cell? ⟨b2,o2+k * 8+2,none⟩=some (.slice lo2 x.cls.like.length lc2)/\V.cell? ⟨b2,o2+k * 8+3,none⟩=some (.bool x.cls.itf)/\V.cell? ⟨b2,o2+k * 8+4,none⟩=some (.bool x.cls.abs)/\V.cell? ⟨b2,o2+k * 8+5,none⟩=some (.bool x.cls.fin)/\V.cell? ⟨b2,o2+k * 8+6,none⟩=some (.slice fo2 x.cls.flds.length fc2)/\V.cell? ⟨b2,o2+k * 8+7,none⟩=some (.slice mo2 x.cls.mths.length mc2)):=Hd (fun V hV=>by
        have ho:=Only.ofBelow (S:=fun _=>False) hV;obtain ⟨a0,a1,a2,a3,a4,a5,a6,a7⟩:=cells8 (HX1.out.below hV);exact ⟨HC0.out V (HBB.out.trans (hV.mono HBB.out.size)),a0,a1,a2,a3,a4,a5,a6,a7,ho.cell (a:=⟨b2,o2+k * 8,none⟩) (hcl2 0 _ rfl) id,ho.cell (a:=⟨b2,o2+k * 8+1,none⟩) (hcl2 1 _ rfl) id,ho.cell (a:=⟨b2,o2+k * 8+2,none⟩) (hcl2 2 _ rfl) id,ho.cell (a:=⟨b2,o2+k * 8+3,none⟩) (hcl2 3 _ rfl) id,ho.cell (a:=⟨b2,o2+k * 8+4,none⟩) (hcl2 4 _ rfl) id,ho.cell (a:=⟨b2,o2+k * 8+5,none⟩) (hcl2 5 _ rfl) id,ho.cell (a:=⟨b2,o2+k * 8+6,none⟩) (hcl2 6 _ rfl) id,ho.cell (a:=⟨b2,o2+k * 8+7,none⟩) (hcl2 7 _ rfl) id⟩)
       have hB:=Below.refl WA.heap.size WA;have HSM:Hid (∀ V,Below WA.heap.size WA V->Calls Tryz.prog 19 #[.agg #[.string (S x.cls.name),.string (S x.cls.sup),.slice lo1 x.cls.like.length lc1,.bool x.cls.itf,.bool x.cls.abs,.bool x.cls.fin,.slice fo1 x.cls.flds.length fc1,.slice mo1 x.cls.mths.length mc1],.agg #[.string (S x.cls.name),.string (S x.cls.sup),.slice lo2 x.cls.like.length lc2,.bool x.cls.itf,.bool x.cls.abs,.bool x.cls.fin,.slice fo2 x.cls.flds.length fc2,.slice mo2 x.cls.mths.length mc2]] V (fun e w'=>e=.returned (.bool true)/\Below V.heap.size V w')):=Hd (fun V hV=>by
        have h:=refsame5_any x.cls x.cls _ _ V (ClsR.st.keep HV2.out (Only.ofBelow (S:=fun _=>False) hV) (fun _ _=>id)) (ClsR.st.keep HU2.out (Only.ofBelow (S:=fun _=>False) hV) (fun _ _=>id)) HFX.out HFX.out;rw [cls_refl] at h;exact h)
       have HOB:Hid (∀ V,Below WA.heap.size WA V->Calls Tryz.prog 27 #[.pointer (some ⟨T,0,none⟩),.string (S x.cls.name)] V (fun e w'=>e=.returned (.bool (!x.cls.abs))/\Below V.heap.size V w')):=Hd (fun V hV=>by
        have h:=objects_any HTB.out x.cls.name V (BRA.out.trans (hV.mono BRA.out.size)) (by have:=HNL.out;omega);unfold objE at h;rw [HPL.out] at h;dsimp only at h;rw [HXX.out] at h;exact h)
       have HP1:Hid (∀ V,Below WA.heap.size WA V->Calls Tryz.prog 28 #[.pointer (some ⟨T,0,none⟩),.string (S x.cls.name)] V (fun e w'=>e=.returned (.string (S (printE (newT cs) x.cls.name)))/\Below V.heap.size V w')):=Hd (fun V hV=>printt_any HTB.out HOK.out.shape x.cls.name V (BRA.out.trans (hV.mono BRA.out.size)) (by have:=HNL.out;omega) (HOK.out.print_len _));have HP2:Hid (∀ V,Below WA.heap.size WA V->Calls Tryz.prog 29 #[.slice (some ⟨b2,o2,none⟩) m vc,.string (S x.cls.name)] V (fun e w'=>e=.returned (.string (S (printE (newT cs) x.cls.name)))/\Below V.heap.size V w')):=Hd (fun V hV=>rprint_any cs HOK.out.lined HOK.out.wise _ (lineE (newT cs) (placeE (newT cs) x.cls.name)) x.cls.name V (HOK.out.wise.sh.line _ (fun i hi=>placeE_lt hi)) (HOK.out.print_len _) (by have:=HNL.out;omega) (ClsR.st.below HSA.out (B3A.out.trans (hV.mono B3A.out.size))));have g:=HSS.out WA hB;have e1:=S_toList x.cls.name;have e2:=S_toList (printE (newT cs) x.cls.name);generalize printE (newT cs) x.cls.name=pt at HP1 HP2 e2;clear hu2 hcl2 HX1 HV2 HU2;obtain ⟨c0,a0,a1,a2,a3,a4,a5,a6,a7,d0,d1,d2,d3,d4,d5,d6,d7⟩:=g;cases hab:x.cls.abs with
       | true=>
        rw [hab] at HSS HSM HOB a4 d4;clear hab;first
        | (go_region_held3 (fun V=>V.cell? ⟨b,o+k,none⟩=some (.string (S x.cls.name))/\V.cell? ⟨bx,0,none⟩=some (.string (S x.cls.name))/\V.cell? ⟨bx,1,none⟩=some (.string (S x.cls.sup))/\V.cell? ⟨bx,2,none⟩=some (.slice lo1 x.cls.like.length lc1)/\V.cell? ⟨bx,3,none⟩=some (.bool x.cls.itf)/\V.cell? ⟨bx,4,none⟩=some (.bool true)/\V.cell? ⟨bx,5,none⟩=some (.bool x.cls.fin)/\V.cell? ⟨bx,6,none⟩=some (.slice fo1 x.cls.flds.length fc1)/\V.cell? ⟨bx,7,none⟩=some (.slice mo1 x.cls.mths.length mc1)/\V.cell? ⟨b2,o2+k * 8,none⟩=some (.string (S x.cls.name))/\V.cell? ⟨b2,o2+k * 8+1,none⟩=some (.string (S x.cls.sup))/\V.cell? ⟨b2,o2+k * 8+2,none⟩=some (.slice lo2 x.cls.like.length lc2)/\V.cell? ⟨b2,o2+k * 8+3,none⟩=some (.bool x.cls.itf)/\V.cell? ⟨b2,o2+k * 8+4,none⟩=some (.bool true)/\V.cell? ⟨b2,o2+k * 8+5,none⟩=some (.bool x.cls.fin)/\V.cell? ⟨b2,o2+k * 8+6,none⟩=some (.slice fo2 x.cls.flds.length fc2)/\V.cell? ⟨b2,o2+k * 8+7,none⟩=some (.slice mo2 x.cls.mths.length mc2)) ((refine HSS.out _ ?_;(repeat (first|(with_reducible exact hB)|(with_reducible assumption)|(with_reducible (apply below_step;rotate_left;assumption))|(with_reducible refine below_drew ?_)))))
          (first
           | ((go_at_call 19;(with_reducible refine (HSM.out _ ?_).mono ?_);(focus ((repeat (first|(with_reducible exact hB)|(with_reducible assumption)|(with_reducible (apply below_step;rotate_left;assumption))|(with_reducible refine below_drew ?_)));done));rintro e ws1 ⟨rfl,bs1⟩))
           | ((go_at_call 27;(with_reducible refine (HOB.out _ ?_).mono ?_);(focus ((repeat (first|(with_reducible exact hB)|(with_reducible assumption)|(with_reducible (apply below_step;rotate_left;assumption))|(with_reducible refine below_drew ?_)));done));rintro e ws2 ⟨rfl,bs2⟩))
           | ((go_at_call 28;(with_reducible refine (HP1.out _ ?_).mono ?_);(focus ((repeat (first|(with_reducible exact hB)|(with_reducible assumption)|(with_reducible (apply below_step;rotate_left;assumption))|(with_reducible refine below_drew ?_)));done));rintro e ws3 ⟨rfl,bs3⟩))
           | ((go_at_call 29;(with_reducible refine (HP2.out _ ?_).mono ?_);(focus ((repeat (first|(with_reducible exact hB)|(with_reducible assumption)|(with_reducible (apply below_step;rotate_left;assumption))|(with_reducible refine below_drew ?_)));done));rintro e ws4 ⟨rfl,bs4⟩))))
        | fail
        all_goals
         go_wp2
         go_roundw
         case rel=>exact ⟨k+1,by omega,by go_num,BWA.out.trans (Below.mono (by first|exact below_drewN _ _|(repeat (first|(with_reducible exact hB)|(with_reducible assumption)|(with_reducible (apply below_step;rotate_left;assumption))|(with_reducible refine below_drew ?_)))) BWA.out.size)⟩
         case measure=>simp [intOf];omega
       | false=>
        rw [hab] at HSS HSM HOB a4 d4;clear hab;first
        | (go_region_held3 (fun V=>V.cell? ⟨b,o+k,none⟩=some (.string (S x.cls.name))/\V.cell? ⟨bx,0,none⟩=some (.string (S x.cls.name))/\V.cell? ⟨bx,1,none⟩=some (.string (S x.cls.sup))/\V.cell? ⟨bx,2,none⟩=some (.slice lo1 x.cls.like.length lc1)/\V.cell? ⟨bx,3,none⟩=some (.bool x.cls.itf)/\V.cell? ⟨bx,4,none⟩=some (.bool false)/\V.cell? ⟨bx,5,none⟩=some (.bool x.cls.fin)/\V.cell? ⟨bx,6,none⟩=some (.slice fo1 x.cls.flds.length fc1)/\V.cell? ⟨bx,7,none⟩=some (.slice mo1 x.cls.mths.length mc1)/\V.cell? ⟨b2,o2+k * 8,none⟩=some (.string (S x.cls.name))/\V.cell? ⟨b2,o2+k * 8+1,none⟩=some (.string (S x.cls.sup))/\V.cell? ⟨b2,o2+k * 8+2,none⟩=some (.slice lo2 x.cls.like.length lc2)/\V.cell? ⟨b2,o2+k * 8+3,none⟩=some (.bool x.cls.itf)/\V.cell? ⟨b2,o2+k * 8+4,none⟩=some (.bool false)/\V.cell? ⟨b2,o2+k * 8+5,none⟩=some (.bool x.cls.fin)/\V.cell? ⟨b2,o2+k * 8+6,none⟩=some (.slice fo2 x.cls.flds.length fc2)/\V.cell? ⟨b2,o2+k * 8+7,none⟩=some (.slice mo2 x.cls.mths.length mc2)) ((refine HSS.out _ ?_;(repeat (first|(with_reducible exact hB)|(with_reducible assumption)|(with_reducible (apply below_step;rotate_left;assumption))|(with_reducible refine below_drew ?_)))))
          (first
           | ((go_at_call 19;(with_reducible refine (HSM.out _ ?_).mono ?_);(focus ((repeat (first|(with_reducible exact hB)|(with_reducible assumption)|(with_reducible (apply below_step;rotate_left;assumption))|(with_reducible refine below_drew ?_)));done));rintro e ws1 ⟨rfl,bs1⟩))
           | ((go_at_call 27;(with_reducible refine (HOB.out _ ?_).mono ?_);(focus ((repeat (first|(with_reducible exact hB)|(with_reducible assumption)|(with_reducible (apply below_step;rotate_left;assumption))|(with_reducible refine below_drew ?_)));done));rintro e ws2 ⟨rfl,bs2⟩))
           | ((go_at_call 28;(with_reducible refine (HP1.out _ ?_).mono ?_);(focus ((repeat (first|(with_reducible exact hB)|(with_reducible assumption)|(with_reducible (apply below_step;rotate_left;assumption))|(with_reducible refine below_drew ?_)));done));rintro e ws3 ⟨rfl,bs3⟩))
           | ((go_at_call 29;(with_reducible refine (HP2.out _ ?_).mono ?_);(focus ((repeat (first|(with_reducible exact hB)|(with_reducible assumption)|(with_reducible (apply below_step;rotate_left;assumption))|(with_reducible refine below_drew ?_)));done));rintro e ws4 ⟨rfl,bs4⟩))))
        | fail
        all_goals
         go_wp2
         go_roundw
         case rel=>exact ⟨k+1,by omega,by go_num,BWA.out.trans (Below.mono (by first|exact below_drewN _ _|(repeat (first|(with_reducible exact hB)|(with_reducible assumption)|(with_reducible (apply below_step;rotate_left;assumption))|(with_reducible refine below_drew ?_)))) BWA.out.size)⟩
         case measure=>simp [intOf];omega
     ·obtain rfl:k=m:=by omega
      have HZ:=Hd (HB3.out.trans (B3.out.mono HB3.out.size));go_wp2;go_ret;exact ⟨rfl,HZ.out⟩
theorem hierMakes_all (sv:Value) (l:List Cls) (w:World) (hT:HT6 w) (hs:Src 8 ClsR Anyw w sv l) (hr:∀ c ∈ l,c.real) (hlen:l.length<=9223372036854775807) :
  Calls Tryz.prog 5 #[sv] w (Said true w):=
 hierMakes_any l sv w hs hT (fun c hc=>(hr c hc).2.1) (fun c hc=>(hr c hc).1) hlen
end Go.Proofs.YtpincofjopmaaaaGreatDoor
