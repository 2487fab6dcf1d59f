/- laws -/
import Derived.Test.YtggcdinoflchjaaGreatDoorK20
import Derived.Laws.OwnMore
set_option maxRecDepth 100000
set_option maxHeartbeats 16000000
namespace Go.Proofs.YtggcdinoflchjaaGreatDoor
open Go.RowKit
def ZbQ:List UInt8:=[70,97,117,108,116]
def Zia:List UInt8:=[119,104,97,116]
def Zh2:List UInt8:=[116,101,120,116]
def faultsL:List (List UInt8):=[[78,117,108,108,70,97,117,108,116],[73,110,100,101,120,70,97,117,108,116],[67,97,115,116,70,97,117,108,116],[90,101,114,111,70,97,117,108,116],
 [82,111,111,109,70,97,117,108,116],[67,97,108,108,70,97,117,108,116]]
def objC:Cls:=⟨objL,[],[],false,false,false,[],[]⟩
def ZbZ:Cls:=⟨ZbQ,objL,[],false,false,false,[⟨Zia,Zh2,false⟩],[]⟩
def oneF (n:List UInt8):Cls:=⟨n,ZbQ,[],false,false,true,[],[]⟩
def givenL:List Cls:=objC :: ZbZ :: faultsL.map oneF
def faultCells:List Value:=faultsL.map fun n=>.string (S n)
def Zb4 (k:Nat):List UInt8:=faultsL.getD k []
def FaultTab (w:World):Prop:=w.rangeAt 0 0 faultCells
theorem FaultTab.keep {w w':World} (h:FaultTab w) (hb:Below w.heap.size w w'):FaultTab w':=fun j v hj=>
 (Yad (S:=fun _=>False) hb).cell (h j v hj) id
theorem Zhe (w:World):(Instr.index 146 (.agg faultCells.toArray) (.int .i64 0)).run Tryz.prog w=.ok (.string (S (Zb4 0))) w:=by kernel_rfl
theorem Zhf (w:World):(Instr.index 146 (.agg faultCells.toArray) (.int .i64 1)).run Tryz.prog w=.ok (.string (S (Zb4 1))) w:=by kernel_rfl
theorem Zhg (w:World):(Instr.index 146 (.agg faultCells.toArray) (.int .i64 2)).run Tryz.prog w=.ok (.string (S (Zb4 2))) w:=by kernel_rfl
theorem Zhh (w:World):(Instr.index 146 (.agg faultCells.toArray) (.int .i64 3)).run Tryz.prog w=.ok (.string (S (Zb4 3))) w:=by kernel_rfl
theorem Zhi (w:World):(Instr.index 146 (.agg faultCells.toArray) (.int .i64 4)).run Tryz.prog w=.ok (.string (S (Zb4 4))) w:=by kernel_rfl
theorem Zhj (w:World):(Instr.index 146 (.agg faultCells.toArray) (.int .i64 5)).run Tryz.prog w=.ok (.string (S (Zb4 5))) w:=by kernel_rfl
theorem Ziv (k:Nat) (hk:k<6) (w:World):(Instr.index 146 (.agg faultCells.toArray) (.int .i64 (k:Nat))).run Tryz.prog w=.ok (.string (S (Zb4 k))) w:=
 match k,hk with
 | 0,_=>Zhe w
 | 1,_=>Zhf w
 | 2,_=>Zhg w
 | 3,_=>Zhh w
 | 4,_=>Zhi w
 | 5,_=>Zhj w
theorem ZiE:(Tryz.prog.info? 146).map (·.size)=some faultCells.length:=by kernel_rfl
theorem Zgs:(Tryz.prog.info? 87).map (fun i=>(i.zero,i.size,i.bytes))=some (some (.agg #[.string ⟨#[]⟩,.string ⟨#[]⟩,.slice none 0 0,.bool false,.bool false,.bool false,.slice none 0 0,.slice none 0 0]),8,112):=by kernel_rfl
def objV:Value:=.agg #[.string (S objL),.string ⟨#[]⟩,.slice none 0 0,.bool false,.bool false,.bool false,.slice none 0 0,.slice none 0 0]
def Zqz (b:Nat):Value:=.agg #[.string (S ZbQ),.string (S objL),.slice none 0 0,.bool false,.bool false,.bool false,.slice (some ⟨b,0,none⟩) 1 1,.slice none 0 0]
def oneV (n:List UInt8):Value:=.agg #[.string (S n),.string (S ZbQ),.slice none 0 0,.bool false,.bool false,.bool true,.slice none 0 0,.slice none 0 0]
theorem ZcY {α:Type} {n:Nat} {R:Zao α} {A:Nat->Prop} {w:World}:Src n R A w (.slice none 0 0) []:=.inl ⟨_,_,rfl,rfl⟩
theorem objR (A:Nat->Prop) (w:World):ClsR A w objC objV:=⟨_,_,_,rfl,ZcY,ZcY,ZcY⟩
theorem oneR (A:Nat->Prop) (w:World) (n:List UInt8):ClsR A w (oneF n) (oneV n):=⟨_,_,_,rfl,ZcY,ZcY,ZcY⟩
theorem ZnN (w:World):TRow 8 87 ClsR w.heap.size ((w.alloc (.cells #[.string (S Zia),.string (S Zh2),.bool false] 99)).alloc (.cells #[.string (S objL),.string ⟨#[]⟩,.slice none 0 0,.bool false,.bool false,.bool false,.slice none 0 0,.slice none 0 0,
   .string (S ZbQ),.string (S objL),.slice none 0 0,.bool false,.bool false,.bool false,.slice (some ⟨w.heap.size,0,none⟩) 1 1,.slice none 0 0] 87)) (.slice (some ⟨w.heap.size+1,0,none⟩) 2 2) [objC,ZbZ] [objV,Zqz w.heap.size]:=by
 have hsz:(w.alloc (.cells #[.string (S Zia),.string (S Zh2),.bool false] 99)).heap.size=w.heap.size+1:=by simp
 have h:=World.ownsRow_lit (base:=0) (e:=87) (size:=8) (w.alloc (.cells #[.string (S Zia),.string (S Zh2),.bool false] 99)) #[.string (S objL),.string ⟨#[]⟩,.slice none 0 0,.bool false,.bool false,.bool false,.slice none 0 0,.slice none 0 0,
   .string (S ZbQ),.string (S objL),.slice none 0 0,.bool false,.bool false,.bool false,.slice (some ⟨w.heap.size,0,none⟩) 1 1,.slice none 0 0] 2 (Yai _) (by decide) rfl
 rw [hsz] at h;have hb1:Below (w.heap.size+1) (w.alloc (.cells #[.string (S Zia),.string (S Zh2),.bool false] 99)) ((w.alloc (.cells #[.string (S Zia),.string (S Zh2),.bool false] 99)).alloc (.cells #[.string (S objL),.string ⟨#[]⟩,.slice none 0 0,.bool false,.bool false,.bool false,.slice none 0 0,.slice none 0 0,
   .string (S ZbQ),.string (S objL),.slice none 0 0,.bool false,.bool false,.bool false,.slice (some ⟨w.heap.size,0,none⟩) 1 1,.slice none 0 0] 87)):=(Yab _ _).alloc (Ycu hsz.symm) _
 have hx:=Box.new w #[.string (S Zia),.string (S Zh2),.bool false] 99;rw [←hsz] at hb1;have hx2:=hx.below hb1;refine ⟨h,fun g hg=>?_,rfl,fun u hu=>?_,fun k x hk=>?_⟩
 ·simp [Value.ownBlock] at hg
  omega
 ·simp at hu
  rcases hu with rfl|rfl <;> rfl
 ·match k,hk with
  | 0,hk=>
   simp at hk
   subst hk;exact ⟨_,rfl,objR _ _⟩
  | 1,hk=>
   simp at hk
   subst hk;refine ⟨_,rfl,_,_,_,rfl,ZcY,.inr ⟨w.heap.size,0,1,rfl,⟨⟨Yac _,fun e=>?_⟩,hx2.lt,by decide,by decide⟩,fun j y hj=>?_⟩,ZcY⟩
   ·simp [Value.ownBlock] at e
   ·match j,hj with
    | 0,hj=>
     obtain rfl:_=y:=Yae hj;refine ⟨_,rfl,rfl,fun i u hi=>?_⟩;rw [Nat.zero_mul,Ybc];exact hx2.cell i hi
    | j+1,hj=>exact absurd hj (by simp [ZbZ])
  | k+2,hk=>simp at hk
def Zlr (w:World) (e:Ending) (w':World):Prop:=∃ v us,e=.returned v/\TRow 8 87 ClsR w.heap.size w' v givenL us/\Below w.heap.size w w'
theorem ZfR (k:Nat) (hk:k<6):objC :: ZbZ :: ((faultsL.take k).map oneF++[oneF (Zb4 k)])=objC :: ZbZ :: (faultsL.take (k+1)).map oneF:=by
 have h:faultsL.take (k+1)=faultsL.take k++[Zb4 k]:=by
  rw [YaL];unfold Zb4;rw [Yam,Yaa (show k<faultsL.length from hk)];rfl
 rw [h,Ya4];rfl
theorem Zme (w:World) (hT:FaultTab w):Calls Tryz.prog 99 #[] w (Zlr w):=by
 obtain ⟨j0,hji,hz0,hz1,hz2⟩:=info_parts Zgs;have HI:=Hd ZiE;have HT:=Hd hT;have HTW:=Hd (ZnN w);clear hT;go_enter Tryz.func99,Tryz.ntmps99
 go_upto_region 2 with fail
 refine wp_region_lit ?_;refine wpList_load_mid (by rfl) 146 _ (by rfl) 0 0 (by rfl) faultCells _ (HT.o.keep (((Yab _ w).alloc (Yac _) _).alloc (by simp) _)) Tryz.underlying146 (by rfl) HI.o ?_
 go_wp2_with fail
 go_loopw [1,10] (fun v1 v10 wr=>∃ (k:Nat) (us:List Value),k<=6/\v10=.int .i64 k/\TRow 8 87 ClsR w.heap.size wr v1 (objC :: ZbZ :: (faultsL.take k).map oneF) us/\Below w.heap.size w wr) (fun _ v10 _=>6 - (intOf v10).toNat)
 case atStart=>exact ⟨0,_,Yai _,rfl,HTW.o,((Yab _ w).alloc (Yac _) _).alloc (by simp) _⟩
 case round=>
  obtain ⟨k,us,hk,rfl,hir,hbel⟩:=hrel;have HIR:=Hd hir;have HB:=Hd hbel;have hlen:(objC :: ZbZ :: (faultsL.take k).map oneF).length=k+2:=by simp [List.length_take,show faultsL.length=6 from rfl,Nat.min_eq_left hk]
  obtain ⟨ao,cp,rfl⟩:=hir.shape;rw [hlen];have HLN:=Hd hlen;clear hir hbel hlen;by_cases hlt:k<6
  ·have hlt':(k:Int)<6:=by omega
   have hk0:(0:Int)<=(k:Int):=by omega
   have hix:=Ziv k hlt;have HKT:=Hd (ZfR k hlt);generalize Zb4 k=nm at hix HKT;have hbA:Below wr.heap.size wr (wr.alloc (.cells #[.string (S nm),.string (S ZbQ),.slice none 0 0,.bool false,.bool false,.bool true,.slice none 0 0,.slice none 0 0] 87)):=(Yab _ wr).alloc (Yac _) _;have HRW:=Hd (HIR.o.below ClsR.st hbA);have HNW:=Hd (Box.new wr #[.string (S nm),.string (S ZbQ),.slice none 0 0,.bool false,.bool false,.bool true,.slice none 0 0,.slice none 0 0] 87);have HRO:=Hd HRW.o.row;rw [HLN.o] at HRO;have HBA:=Hd (HB.o.trans (hbA.mono HB.o.size));clear hbA
   go_wp2_with (at_builtin;refine Zbd _ rfl _ _ 26 rfl 87 j0 (.agg #[.string ⟨#[]⟩,.string ⟨#[]⟩,.slice none 0 0,.bool false,.bool false,.bool false,.slice none 0 0,.slice none 0 0]) 8 112 Tryz.underlying26 hji hz0 hz1 hz2 rfl (by decide) _ _ _ rfl HRO.o ⟨wr.heap.size,0,none⟩ 1 1 [.string (S nm),.string (S ZbQ),.slice none 0 0,.bool false,.bool false,.bool true,.slice none 0 0,.slice none 0 0] rfl rfl (by intro j q hj;rw [Ybo,Ybc];exact HNW.o.cell j (by rw [←hj];simp)) (by intro q hq;simp at hq;rcases hq with rfl|rfl|rfl|rfl|rfl|rfl|rfl|rfl <;> rfl) ?c3 ?c4 ?_)
   case c3=>unfold maxLen;omega
   case c4=>omega
   intro v' w3 hown' hgrow;have hg':Grew (wr.alloc (.cells #[.string (S nm),.string (S ZbQ),.slice none 0 0,.bool false,.bool false,.bool true,.slice none 0 0,.slice none 0 0] 87)) (.slice ao (objC :: ZbZ :: (faultsL.take k).map oneF).length cp) w3 v':=by rw [HLN.o];exact hgrow
   have ir4:=HRW.o.snoc ClsR.st hg' HBA.o.size (u:=oneV nm) rfl (oneR _ _ nm) (by rw [HLN.o];exact hown');rw [show (objC :: ZbZ :: (faultsL.take k).map oneF)++[oneF nm]=objC :: ZbZ :: ((faultsL.take k).map oneF++[oneF nm]) from rfl,HKT.o] at ir4;have IR4:=Hd ir4;have HB4:=Hd (HBA.o.trans (hg'.only.below HBA.o.size (fun g hg=>HRW.o.own g hg)));clear ir4 hgrow hown' hg' hix;go_wp2
   go_roundw
   case rel=>exact ⟨k+1,_,by omega,by go_num,IR4.o,HB4.o⟩
   case measure=>simp [intOf];omega
  ·obtain rfl:k=6:=by omega
   go_wp2;go_ret;exact ⟨_,us,rfl,by have h:=HIR.o;rw [HLN.o] at h;exact h,HB.o⟩
theorem Zg3 {W:World} {b:Nat} {cs:Array Value} {t:TypeId} (h:W.heap.size=b):Box (W.alloc (.cells cs t)) b cs t:=by
 subst h;exact Box.new W cs t
theorem Zj8 (k:Nat) (hk:k<6):faultCells.toArray[k]? = some (.string (S (Zb4 k))):=
 match k,hk with
 | 0,_=>rfl
 | 1,_=>rfl
 | 2,_=>rfl
 | 3,_=>rfl
 | 4,_=>rfl
 | 5,_=>rfl
theorem Zld (w:World):Calls Tryz.prog 51 #[] w (Zlr w):=by
 obtain ⟨j0,hji,hz0,hz1,hz2⟩:=info_parts Zgs;have HTW:=Hd (ZnN w);go_enter Tryz.func51,Tryz.ntmps51
 go_wp2_with fail
 go_loopw [1,3] (fun v1 v10 wr=>∃ (k:Nat) (us:List Value),k<=6/\v10=.int .i64 k/\TRow 8 87 ClsR w.heap.size wr v1 (objC :: ZbZ :: (faultsL.take k).map oneF) us/\Below w.heap.size w wr/\Box wr (w.heap.size+2) faultCells.toArray 9/\v1.ownBlock ≠ some (w.heap.size+2)) (fun _ v10 _=>6 - (intOf v10).toNat)
 case atStart=>exact ⟨0,_,Yai _,rfl,HTW.o.below ClsR.st ((Yab _ _).alloc (Yac _) _),(((Yab _ w).alloc (Yac _) _).alloc (by simp) _).alloc (by simp;omega) _,(Zg3 (cs:=faultCells.toArray) (by simp)),(by simp [Value.ownBlock])⟩
 case round=>
  obtain ⟨k,us,hk,rfl,hir,hbel,hbx,hne⟩:=hrel;have HX:=Hd hbx;have HZ:=Hd hne;have HIR:=Hd hir;have HB:=Hd hbel;have hlen:(objC :: ZbZ :: (faultsL.take k).map oneF).length=k+2:=by simp [List.length_take,show faultsL.length=6 from rfl,Nat.min_eq_left hk]
  obtain ⟨ao,cp,rfl⟩:=hir.shape;rw [hlen];have HLN:=Hd hlen;clear hir hbel hlen hbx hne;by_cases hlt:k<6
  ·have hlt':(k:Int)<6:=by omega
   have hk0:(0:Int)<=(k:Int):=by omega
   have hix:=HX.o.cell k (Zj8 k hlt);have HKT:=Hd (ZfR k hlt);generalize Zb4 k=nm at hix HKT;have hbA:Below wr.heap.size wr (wr.alloc (.cells #[.string (S nm),.string (S ZbQ),.slice none 0 0,.bool false,.bool false,.bool true,.slice none 0 0,.slice none 0 0] 87)):=(Yab _ wr).alloc (Yac _) _;have HRW:=Hd (HIR.o.below ClsR.st hbA);have HNW:=Hd (Box.new wr #[.string (S nm),.string (S ZbQ),.slice none 0 0,.bool false,.bool false,.bool true,.slice none 0 0,.slice none 0 0] 87);have HRO:=Hd HRW.o.row;rw [HLN.o] at HRO;have HBA:=Hd (HB.o.trans (hbA.mono HB.o.size));have HX2:=Hd (HX.o.below hbA);clear hbA
   go_wp2_with (at_builtin;refine Zbd _ rfl _ _ 26 rfl 87 j0 (.agg #[.string ⟨#[]⟩,.string ⟨#[]⟩,.slice none 0 0,.bool false,.bool false,.bool false,.slice none 0 0,.slice none 0 0]) 8 112 Tryz.underlying26 hji hz0 hz1 hz2 rfl (by decide) _ _ _ rfl HRO.o ⟨wr.heap.size,0,none⟩ 1 1 [.string (S nm),.string (S ZbQ),.slice none 0 0,.bool false,.bool false,.bool true,.slice none 0 0,.slice none 0 0] rfl rfl (by intro j q hj;rw [Ybo,Ybc];exact HNW.o.cell j (by rw [←hj];simp)) (by intro q hq;simp at hq;rcases hq with rfl|rfl|rfl|rfl|rfl|rfl|rfl|rfl <;> rfl) ?c3 ?c4 ?_)
   case c3=>unfold maxLen;omega
   case c4=>omega
   intro v' w3 hown' hgrow;have hg':Grew (wr.alloc (.cells #[.string (S nm),.string (S ZbQ),.slice none 0 0,.bool false,.bool false,.bool true,.slice none 0 0,.slice none 0 0] 87)) (.slice ao (objC :: ZbZ :: (faultsL.take k).map oneF).length cp) w3 v':=by rw [HLN.o];exact hgrow
   have ir4:=HRW.o.snoc ClsR.st hg' HBA.o.size (u:=oneV nm) rfl (oneR _ _ nm) (by rw [HLN.o];exact hown');rw [show (objC :: ZbZ :: (faultsL.take k).map oneF)++[oneF nm]=objC :: ZbZ :: ((faultsL.take k).map oneF++[oneF nm]) from rfl,HKT.o] at ir4;have IR4:=Hd ir4;have HB4:=Hd (HBA.o.trans (hg'.only.below HBA.o.size (fun g hg=>HRW.o.own g hg)));have HX4:=Hd (HX2.o.keep hg'.only (fun e=>HZ.o e));have HZ4:Hid (v'.ownBlock ≠ some (w.heap.size+2)):=Hd (fun e=>by
    rcases hg'.came with e1|e1
    ·exact HZ.o (e1.symm.trans e)
    ·have h1:=e1 _ e;have h2:=HX2.o.lt;omega)
   clear ir4 hgrow hown' hg' hix;go_wp2
   go_roundw
   case rel=>exact ⟨k+1,_,by omega,by go_num,IR4.o,HB4.o,HX4.o,HZ4.o⟩
   case measure=>simp [intOf];omega
  ·obtain rfl:k=6:=by omega
   go_wp2;go_ret;exact ⟨_,us,rfl,by have h:=HIR.o;rw [HLN.o] at h;exact h,HB.o⟩
def offT (s T mb:Nat) (B:Nat->Nat) (n:Nat):Nat->Prop:=fun k=>s<=k/\k ≠ T/\k ≠ mb/\∀ i,i<n->k ≠ B i
structure Tb (s:Nat) (w:World) (T mb:Nat) (B:Nat->Nat) (es:List Ent) (u:Nat):Prop where
 tab:Tab (offT s T mb B es.length) w T mb B es
 tT:s<=T
 tM:s<=mb
 tB:∀ i,i<es.length->s<=B i
 up:∀ (i:Nat) (e:Ent) (j:Nat),es[i]? = some e->e.up=some j->j<es.length
 lk:∀ (i:Nat) (e:Ent) (j:Nat),es[i]? = some e->j ∈ e.lk->j<es.length
 raw:∀ (i:Nat) (e:Ent),u<=i->es[i]? = some e->e.up=none/\e.lk=[]/\w.cell? ⟨B i,10,none⟩=some (.slice none 0 0)
theorem Tb.keep {s:Nat} {S:Nat->Prop} {w w':World} {T mb:Nat} {B:Nat->Nat} {es:List Ent} {u:Nat} (h:Tb s w T mb B es u) (ho:Only S w w') (hS:∀ k,s<=k->k<w.heap.size->¬ S k):Tb s w' T mb B es u:=by
 have hS':Only (fun k=>k<s) w w':=ho.mono (fun i hi hs=>by
  rcases YaB i s with h1|h1
  ·exact h1
  ·exact absurd hs (hS i h1 hi))
 have nb:∀ i,i<es.length->¬ B i<s:=fun i hi hl=>by have:=h.tB i hi;omega
 refine ⟨⟨h.tab.box.keep hS' (fun hl=>by have:=h.tT;omega),h.tab.map.keep hS' (fun hl=>by have:=h.tM;omega),fun i e hi=>?_,h.tab.inj,h.tab.offA,h.tab.offT,h.tab.offM,h.tab.T_A,h.tab.M_A,h.tab.T_M⟩,h.tT,h.tM,h.tB,h.up,h.lk,fun i e hu hi=>?_⟩
 ·exact (h.tab.ent i e hi).keep hS' (fun k hk hl=>by have:=hk.1;omega) (nb i (Yag.1 hi).1)
 ·obtain ⟨h1,h2,h3⟩:=h.raw i e hu hi;exact ⟨h1,h2,hS'.cell h3 (nb i (Yag.1 hi).1)⟩
theorem Tb.below {s:Nat} {w w':World} {T mb:Nat} {B:Nat->Nat} {es:List Ent} {u:Nat} (h:Tb s w T mb B es u) (hb:Below w.heap.size w w'):Tb s w' T mb B es u:=
 h.keep (Yad (S:=fun _=>False) hb) (fun _ _ _=>id)
theorem Src.congr {α:Type} {n:Nat} {R R':Zao α} {A:Nat->Prop} {w:World} {sv:Value} {l:List α} (h:Src n R A w sv l) (hR:∀ x ∈ l,∀ v,R A w x v->R' A w x v):Src n R' A w sv l:=by
 rcases h with h|⟨b,o,cap,hsv,hs,hc⟩
 ·exact .inl h
 ·refine .inr ⟨b,o,cap,hsv,hs,fun k x hx=>?_⟩;obtain ⟨v,h1,h2⟩:=hc k x hx;exact ⟨v,hR x (Yaf hx) v h1,h2⟩
theorem Zf0 {B B':Nat->Nat} {o:Option Nat} (h:∀ j,o=some j->B' j=B j):ptrV B' o=ptrV B o:=by
 cases o with
 | none=>rfl
 | some j=>rw [ZbW,ZbW,h j rfl]
theorem EntIs.congr {A:Nat->Prop} {B B':Nat->Nat} {w:World} {i:Nat} {e:Ent} (h:EntIs A B w i e) (hi:B' i=B i) (hu:∀ j,e.up=some j->B' j=B j) (hl:∀ j ∈ e.lk,B' j=B j):EntIs A B' w i e:=by
 obtain ⟨lv,fv,mv,sv,h0,h1,h2,h3,h4⟩:=h;refine ⟨lv,fv,mv,sv,?_,h1,h2,h3,h4.congr (fun x hx v hv=>?_)⟩
 ·unfold entC;rw [hi,Zf0 hu];exact h0
 ·show v=.pointer (some ⟨B' x,0,none⟩)
  rw [hl x hx];exact hv
theorem EntIs.mono {A A':Nat->Prop} {B:Nat->Nat} {w:World} {i:Nat} {e:Ent} (h:EntIs A B w i e) (hA:∀ k,k<w.heap.size->A k->A' k):EntIs A' B w i e:=by
 obtain ⟨lv,fv,mv,sv,h0,h1,h2,h3,h4⟩:=h;exact ⟨lv,fv,mv,sv,h0,StrR.st.srcMono h1 hA,FldR.st.srcMono h2 hA,MthR.st.srcMono h3 hA,(EntP.st B).srcMono h4 hA⟩
theorem Zdh {es:List Ent} {n:List UInt8} {e:Ent}:Zad (es++[e]) n=match Zad es n with|some i=>some i|none=>if e.cls.name == n then some es.length else none:=by
 unfold Zad;rw [Ycw];cases h:es.findIdx? (fun e=>e.cls.name == n) with
 | some i=>simp
 | none=>
  by_cases he:e.cls.name == n
  ·simp [List.findIdx?_cons,he]
  ·simp [List.findIdx?_cons,he]
def addB (B:Nat->Nat) (n b:Nat):Nat->Nat:=fun i=>if i=n then b else B i
theorem Zge {B:Nat->Nat} {n b i:Nat} (h:i<n):addB B n b i=B i:=by unfold addB;rw [Yas (by omega)]
theorem ZbL {B:Nat->Nat} {n b:Nat}:addB B n b n=b:=by unfold addB;rw [YaC rfl]
theorem Tb.push {s:Nat} {w:World} {T mb:Nat} {B:Nat->Nat} {es:List Ent} {u:Nat} (h:Tb s w T mb B es u) (c:Cls) (lv fv mv:Value) (hp:Zad es c.name=none) (hn:c.name.length<=9223372036854775807) (hlen:es.length<9223372036854775807) (hs:s<=w.heap.size)
  (hl:Src 1 StrR (offT s T mb B es.length) w lv c.like) (hf:Src 3 FldR (offT s T mb B es.length) w fv c.flds) (hm:Src 7 MthR (offT s T mb B es.length) w mv c.mths) :
  (Instr.mapUpdate 79 (.map (some mb)) (.string (S c.name)) (.pointer (some ⟨w.heap.size,0,none⟩))).run Tryz.prog (w.alloc (.cells (entC B es.length ⟨c,none,[]⟩ lv fv mv (.slice none 0 0)) 97)) =
    .ok () (putW Tryz.prog 79 (.map (some mb)) (.string (S c.name)) (.pointer (some ⟨w.heap.size,0,none⟩)) (w.alloc (.cells (entC B es.length ⟨c,none,[]⟩ lv fv mv (.slice none 0 0)) 97)))/\
   Tb s (putW Tryz.prog 79 (.map (some mb)) (.string (S c.name)) (.pointer (some ⟨w.heap.size,0,none⟩)) (w.alloc (.cells (entC B es.length ⟨c,none,[]⟩ lv fv mv (.slice none 0 0)) 97))) T mb (addB B es.length w.heap.size) (es++[⟨c,none,[]⟩]) u/\
   Only (fun k=>k=mb) w (putW Tryz.prog 79 (.map (some mb)) (.string (S c.name)) (.pointer (some ⟨w.heap.size,0,none⟩)) (w.alloc (.cells (entC B es.length ⟨c,none,[]⟩ lv fv mv (.slice none 0 0)) 97))):=by
 have hb1:Below w.heap.size w (w.alloc (.cells (entC B es.length ⟨c,none,[]⟩ lv fv mv (.slice none 0 0)) 97)):=(Yab _ w).alloc (Yac _) _;have hx:=Box.new w (entC B es.length ⟨c,none,[]⟩ lv fv mv (.slice none 0 0)) 97;have h1:=h.below hb1;have ho1:Only (fun _=>False) w (w.alloc (.cells (entC B es.length ⟨c,none,[]⟩ lv fv mv (.slice none 0 0)) 97)):=Yad hb1;have hl1:=StrR.st.src hl ho1 (fun _ _=>id);have hf1:=FldR.st.src hf ho1 (fun _ _=>id);have hm1:=MthR.st.src hm ho1 (fun _ _=>id);have hTl:=h.tab.box.lt;have hMl:=h.tab.map.lt;have hBl:∀ i,i<es.length->B i<w.heap.size:=fun i hi=>h.tab.lt hi
 generalize hW:w.alloc (.cells (entC B es.length ⟨c,none,[]⟩ lv fv mv (.slice none 0 0)) 97)=W at hb1 hx h1 ho1 hl1 hf1 hm1 ⊢;have hWs:W.heap.size=w.heap.size+1:=by rw [←hW];simp
 clear hW;obtain ⟨r1,r2,r3,r4⟩:=h1.tab.map.put Za3 Tryz.underlying79 (by unfold maxLen;omega) (val:=.pointer (some ⟨w.heap.size,0,none⟩)) (ZcE c.name hn);refine ⟨r1,?_,(ho1.mono (fun _ _ q=>q.elim)).trans r3⟩;generalize putW Tryz.prog 79 (.map (some mb)) (.string (S c.name)) (.pointer (some ⟨w.heap.size,0,none⟩)) W=W2 at r1 r2 r3 r4 ⊢;have hsh:(ZeJ es (.string c.name)).isSome=false:=by
  show (Zad es c.name).isSome=false
  rw [hp];rfl
 rw [hsh] at r2;have hgetOld:∀ i e,i<es.length->(es++[⟨c,none,[]⟩])[i]? = some e->es[i]? = some e:=fun i e hi he=>by rw [YaP hi] at he;exact he
 have hgetNew:∀ i e,¬ i<es.length->(es++[⟨c,none,[]⟩])[i]? = some e->i=es.length/\e=⟨c,none,[]⟩:=fun i e hi he=>by
  rw [YaH (by omega)] at he;have h0:i - es.length=0:=by
   rcases YbP (i - es.length) with h0|h0
   ·exact h0
   ·rw [YaN (by simp;omega)] at he;cases he
  rw [h0] at he;simp at he
  exact ⟨by omega,he.symm⟩
 have hll:(es++[(⟨c,none,[]⟩:Ent)]).length=es.length+1:=by simp
 have hoff:∀ k,k<W2.heap.size->k ≠ w.heap.size->offT s T mb B es.length k->offT s T mb (addB B es.length w.heap.size) (es++[(⟨c,none,[]⟩:Ent)]).length k:=fun k _ hk ⟨q1,q2,q3,q4⟩=>⟨q1,q2,q3,fun i hi=>by
  rw [hll] at hi;rcases YaB i es.length with h5|h5
  ·rw [Zge h5];exact q4 i h5
  ·rw [show i=es.length by omega,ZbL];exact hk⟩
 have old:∀ j,j<es.length->addB B es.length w.heap.size j=B j:=fun j hj=>Zge hj
 have hA':∀ (i:Nat) e,es[i]? = some e->EntIs (offT s T mb (addB B es.length w.heap.size) (es++[(⟨c,none,[]⟩:Ent)]).length) (addB B es.length w.heap.size) W2 i e:=fun i e he=>by
  have hi:=(Yag.1 he).1;have q0:=(h.tab.ent i e he).mono (A':=fun k=>offT s T mb B es.length k/\k<w.heap.size) (fun k hk ha=>⟨ha,hk⟩);have q1:=(q0.keep ho1 (fun _ _=>id) id).keep r3 (fun k hk (e:k=mb)=>hk.1.2.2.1 e) (h.tab.offM i hi);refine (q1.mono (fun k hk ha=>hoff k hk (by have:=ha.2;omega) ha.1)).congr (old i hi) (fun j hj=>old j (h.up i e j he hj)) (fun j hj=>old j (h.lk i e j he hj))
 refine ⟨⟨h1.tab.box.keep r3 (fun e=>h.tab.T_M e),?_,fun i e he=>?_,fun i j hi hj hij=>?_,fun i hi ha=>?_,fun i hi=>?_,fun i hi=>?_,fun ha=>ha.2.1 rfl,fun ha=>ha.2.2.1 rfl,h.tab.T_M⟩,h.tT,h.tM,fun i hi=>?_,fun i e j he hj=>?_,fun i e j he hj=>?_,fun i e hu he=>?_⟩
 ·obtain ⟨D,d1,d2,d3,d4⟩:=r2;have d5:(if false=true then es.length else es.length+1)=(es++[(⟨c,none,[]⟩:Ent)]).length:=by rw [hll];rfl
  rw [d5] at d1 d2;refine ⟨D,d1,d2,fun kl=>?_,fun kl=>?_⟩
  ·rw [d3];refine Ya5 DataW.held ?_;by_cases e:kl=.string c.name
   ·subst e;rw [ZbX];show _=ptrV _ (Zad _ _)
    rw [Zdh,hp];show _=ptrV _ (if (c.name == c.name)=true then some es.length else none)
    rw [YaC (Ybf _),ZbW,ZbL]
   ·rw [Za8 _ _ e];cases kl with
    | string n=>
     have hne:(c.name == n)=false:=Yah.2 (fun e2=>e (by rw [e2]));show ptrV B (Zad es n)=ptrV _ (Zad _ n)
     rw [Zdh];cases hpl:Zad es n with
     | none=>
      show ptrV B none=ptrV _ (if (c.name == n)=true then some es.length else none)
      rw [hne];rfl
     | some i=>exact (Zf0 (fun j hj=>old j (by rw [←Yae hj];exact (YaV.1 hpl).1))).symm
    | _=>rfl
  ·rw [d4];by_cases e:kl=.string c.name
   ·subst e;rw [ZbX];show _=(Zad _ _).isSome
    rw [Zdh,hp];show _=(if (c.name == c.name)=true then some es.length else none).isSome
    rw [YaC (Ybf _)];rfl
   ·rw [Za8 _ _ e];cases kl with
    | string n=>
     have hne:(c.name == n)=false:=Yah.2 (fun e2=>e (by rw [e2]));show (Zad es n).isSome=(Zad _ n).isSome
     rw [Zdh];cases hpl:Zad es n with
     | none=>
      show _=(if (c.name == n)=true then some es.length else none).isSome
      rw [hne];rfl
     | some i=>rfl
    | _=>rfl
 ·rcases YaB i es.length with hi|hi
  ·exact hA' i e (hgetOld i e hi he)
  ·obtain ⟨rfl,rfl⟩:=hgetNew i e (by omega) he;have hxm:¬ w.heap.size=mb:=by omega
   have tr:∀ k,(offT s T mb B es.length k/\k<w.heap.size)->¬ k=mb:=fun k hk e=>hk.1.2.2.1 e
   have tr2:∀ k,k<W2.heap.size->(offT s T mb B es.length k/\k<w.heap.size)->offT s T mb (addB B es.length w.heap.size) (es++[(⟨c,none,[]⟩:Ent)]).length k:=fun k hk ha=>hoff k hk (by have:=ha.2;omega) ha.1
   have a1:∀ k,k<w.heap.size->offT s T mb B es.length k->(offT s T mb B es.length k/\k<w.heap.size):=fun k hk ha=>⟨ha,hk⟩
   have e1:=StrR.st.srcMono (StrR.st.src (StrR.st.src (StrR.st.srcMono hl a1) ho1 (fun _ _=>id)) r3 tr) tr2;have e2:=FldR.st.srcMono (FldR.st.src (FldR.st.src (FldR.st.srcMono hf a1) ho1 (fun _ _=>id)) r3 tr) tr2;have e3:=MthR.st.srcMono (MthR.st.src (MthR.st.src (MthR.st.srcMono hm a1) ho1 (fun _ _=>id)) r3 tr) tr2;refine ⟨lv,fv,mv,.slice none 0 0,?_,e1,e2,e3,.inl ⟨_,_,rfl,rfl⟩⟩;rw [ZbL];exact hx.keep r3 hxm
 ·rw [hll] at hi hj;rcases YaB i es.length with h5|h5 <;> rcases YaB j es.length with h6|h6
  ·rw [old i h5,old j h6] at hij;exact h.tab.inj i j h5 h6 hij
  ·rw [old i h5,show j=es.length by omega,ZbL] at hij;have:=hBl i h5;omega
  ·rw [old j h6,show i=es.length by omega,ZbL] at hij;have:=hBl j h6;omega
  ·omega
 ·exact ha.2.2.2 i hi rfl
 ·rw [hll] at hi;rcases YaB i es.length with h5|h5
  ·rw [old i h5];exact h.tab.offT i h5
  ·rw [show i=es.length by omega,ZbL];omega
 ·rw [hll] at hi;rcases YaB i es.length with h5|h5
  ·rw [old i h5];exact h.tab.offM i h5
  ·rw [show i=es.length by omega,ZbL];omega
 ·rw [hll] at hi;rcases YaB i es.length with h5|h5
  ·rw [old i h5];exact h.tB i h5
  ·rw [show i=es.length by omega,ZbL];exact hs
 ·rw [hll];rcases YaB i es.length with h5|h5
  ·have:=h.up i e j (hgetOld i e h5 he) hj;omega
  ·obtain ⟨_,rfl⟩:=hgetNew i e (by omega) he;cases hj
 ·rw [hll];rcases YaB i es.length with h5|h5
  ·have:=h.lk i e j (hgetOld i e h5 he) hj;omega
  ·obtain ⟨_,rfl⟩:=hgetNew i e (by omega) he;cases hj
 ·rcases YaB i es.length with h5|h5
  ·obtain ⟨g1,g2,g3⟩:=h1.raw i e hu (hgetOld i e h5 he);refine ⟨g1,g2,?_⟩;rw [old i h5];exact r3.cell g3 (h.tab.offM i h5)
  ·obtain ⟨rfl,rfl⟩:=hgetNew i e (by omega) he;refine ⟨rfl,rfl,?_⟩;rw [ZbL];exact r3.cell (hx.cell 10 rfl) (by show ¬ w.heap.size=mb;omega)
theorem Zb3 {A:Nat->Prop} {w w':World} {c:Cls} {v:Value} (h:ClsR A w c v) (hb:Below w.heap.size w w'):ClsR A w' c v:=
 ClsR.st.keep h (Yad (S:=fun _=>False) hb) (fun _ _=>id)
def Zql (s T mb:Nat) (B:Nat->Nat) (es:List Ent) (u:Nat) (c:Cls) (w:World) (e:Ending) (w':World):Prop:=
 ((Zad es c.name).isSome=true->e=.returned (.int .i64 60)/\Below w.heap.size w w')/\
 (Zad es c.name=none->e=.returned (.int .i64 0)/\Only (fun k=>k=mb) w w'/\∃ b,w.heap.size<=b/\Tb s w' T mb (addB B es.length b) (es++[⟨c,none,[]⟩]) u)
structure En (s T mb:Nat) (B:Nat->Nat) (es:List Ent) (u:Nat) (c:Cls) (w:World) (lv fv mv:Value) (W:World):Prop where
 tb:Tb s W T mb B es u
 box:Box W w.heap.size #[.string (S c.name),.string (S c.sup),lv,.bool c.itf,.bool c.abs,.bool c.fin,fv,mv] 87
 bel:Below w.heap.size w W
 like:Src 1 StrR (offT s T mb B es.length) W lv c.like
 flds:Src 3 FldR (offT s T mb B es.length) W fv c.flds
 mths:Src 7 MthR (offT s T mb B es.length) W mv c.mths
theorem En.drew {s T mb:Nat} {B:Nat->Nat} {es:List Ent} {u:Nat} {c:Cls} {w:World} {lv fv mv:Value} {W:World} (h:En s T mb B es u c w lv fv mv W):En s T mb B es u c w lv fv mv W.drew:=by
 have hb:Below W.heap.size W W.drew:=Zab (Yab _ _);have ho:=Yad (S:=fun _=>False) hb;exact ⟨h.tb.below hb,h.box.below hb,h.bel.trans (hb.mono h.bel.size),StrR.st.src h.like ho (fun _ _=>id),FldR.st.src h.flds ho (fun _ _=>id),MthR.st.src h.mths ho (fun _ _=>id)⟩
theorem Zhc {A:Nat->Prop} {s T mb:Nat} {B:Nat->Nat} {es:List Ent} {u:Nat} (c:Cls) (v:Value) (w:World) (h:Tb s w T mb B es u) (hs:s<=w.heap.size) (hv:ClsR A w c v) (hsm:c.Small) (hlen:es.length<=1048576) :
  Calls Tryz.prog 44 #[.pointer (some ⟨T,0,none⟩),v] w (Zql s T mb B es u c w):=by
 obtain ⟨_,_,_,rfl,⟨lo,lc,rfl⟩,⟨fo,fc,rfl⟩,⟨mo,mc,rfl⟩⟩:=ZbO hv;have hb0:Below w.heap.size w (w.alloc (.cells #[.string (S c.name),.string (S c.sup),.slice lo c.like.length lc,.bool c.itf,.bool c.abs,.bool c.fin,.slice fo c.flds.length fc,.slice mo c.mths.length mc] 87)):=(Yab _ w).alloc (Yac _) _;have HX0:=Hd (Box.new w #[.string (S c.name),.string (S c.sup),.slice lo c.like.length lc,.bool c.itf,.bool c.abs,.bool c.fin,.slice fo c.flds.length fc,.slice mo c.mths.length mc] 87);have HT0:=Hd (h.below hb0);have HV0:=Hd (Zb3 hv hb0);have HB0:=Hd hb0;have HSM:=Hd hsm;have HN:=Hd hlen;have HLT:Hid (T<w.heap.size/\mb<w.heap.size/\∀ i,i<es.length->B i<w.heap.size):=Hd ⟨h.tab.box.lt,h.tab.map.lt,fun i hi=>h.tab.lt hi⟩;have HT:=Hd h;clear hb0 hv hsm hlen h;go_enter Tryz.func44,Tryz.ntmps44
 go_upto_region 1 with fail
 obtain ⟨W0,hW0⟩:∃ W0,W0=w.alloc (.cells #[.string (S c.name),.string (S c.sup),.slice lo c.like.length lc,.bool c.itf,.bool c.abs,.bool c.fin,.slice fo c.flds.length fc,.slice mo c.mths.length mc] 87):=⟨_,rfl⟩
 rw [←hW0] at HX0 HT0 HV0 HB0 ⊢;have HWS:Hid (w.heap.size<W0.heap.size):=Hd (HX0.o.lt);clear hW0;have h0:Below W0.heap.size W0 W0:=Yab _ _;have hnl:c.name.length<=9223372036854775807:=by have:=HSM.o.name;omega
 have HR:Hid (∀ W,Below W0.heap.size W0 W->W.cell? ⟨T,0,none⟩=some (.map (some mb))/\W.cell? ⟨w.heap.size,0,none⟩=some (.string (S c.name))/\
   (Instr.lookup 79 (.map (some mb)) (.string (S c.name)) false).run Tryz.prog W=.ok (ptrV B (Zad es c.name)) W):=Hd (fun W hW=>
  ⟨(HT0.o.below hW).tab.box.cell 0 rfl,(HX0.o.below hW).cell 0 rfl,(HT0.o.below hW).tab.look c.name hnl⟩)
 clear hnl;cases hp:Zad es c.name with
 | some j=>
  rw [hp,ZbW] at HR;obtain ⟨g1,g2,g3⟩:=HR.o W0 h0;first
  | (go_region_held (fun W=>W.cell? ⟨T,0,none⟩=some (.map (some mb))/\W.cell? ⟨w.heap.size,0,none⟩=some (.string (S c.name))/\(Instr.lookup 79 (.map (some mb)) (.string (S c.name)) false).run Tryz.prog W=.ok (.pointer (some ⟨B j,0,none⟩)) W)
    ((refine HR.o _ ?_;(repeat (first|(with_reducible exact Yab _ _)|(with_reducible assumption)|(with_reducible refine Zab ?_))))) (fail))
  | fail
  all_goals
   clear g1 g2 g3;go_wp2;go_ret;exact ⟨fun _=>⟨rfl,HB0.o.trans ((Zab h0).mono HB0.o.size)⟩,fun q=>(by rw [hp] at q;cases q)⟩
 | none=>
  rw [hp,Zeh] at HR;obtain ⟨g1,g2,g3⟩:=HR.o W0 h0;first
  | (go_region_held (fun W=>W.cell? ⟨T,0,none⟩=some (.map (some mb))/\W.cell? ⟨w.heap.size,0,none⟩=some (.string (S c.name))/\(Instr.lookup 79 (.map (some mb)) (.string (S c.name)) false).run Tryz.prog W=.ok (.pointer none) W)
    ((refine HR.o _ ?_;(repeat (first|(with_reducible exact Yab _ _)|(with_reducible assumption)|(with_reducible refine Zab ?_))))) (fail))
  | fail
  all_goals
   clear g1 g2 g3;have hbD:=Zab h0;have HTD:=Hd (HT0.o.below hbD);have HVD:=Hd (Zb3 HV0.o hbD);have HBD:=Hd (HB0.o.trans (hbD.mono HB0.o.size));have HSD:Hid (w.heap.size<W0.drew.heap.size):=Hd HWS.o;have xD:=HX0.o.below hbD;clear h0 hbD HR HX0 HT0 HV0 HB0 HWS;generalize W0.drew=W1 at HTD HVD HBD HSD xD ⊢;have r0:=xD.cell 0 rfl;have r1:=xD.cell 1 rfl;have r2:=xD.cell 2 rfl;have r3:=xD.cell 3 rfl;have r4:=xD.cell 4 rfl;have r5:=xD.cell 5 rfl;have r6:=xD.cell 6 rfl;have r7:=xD.cell 7 rfl;have HXD:=Hd xD;clear xD
   go_wp2_with fail
   refine (Zqt c _ W1 HVD.o HSM.o).mono ?_;rintro e2 w2 ⟨v2,rfl,hv2,hb2⟩;clear r0 r1 r2 r3 r4 r5 r6 r7;have hc2:=hv2;obtain ⟨_,_,_,rfl,⟨lo2,lc2,rfl⟩,⟨fo2,fc2,rfl⟩,⟨mo2,mc2,rfl⟩⟩:=ZbO hv2;have x2:=HXD.o.below hb2;have r0:=x2.cell 0 rfl;have r1:=x2.cell 1 rfl;have r2:=x2.cell 2 rfl;have r3:=x2.cell 3 rfl;have r4:=x2.cell 4 rfl;have r5:=x2.cell 5 rfl;have r6:=x2.cell 6 rfl;have r7:=x2.cell 7 rfl;have f0:=x2.free 0;have f1:=x2.free 1;have f2:=x2.free 2;have f3:=x2.free 3;have f4:=x2.free 4;have f5:=x2.free 5;have f6:=x2.free 6;have f7:=x2.free 7;have HX2:=Hd x2;have HV2:=Hd hv2;have HT2:=Hd (HTD.o.below hb2);have HB2:=Hd (HBD.o.trans (hb2.mono HBD.o.size));clear x2 hv2 hc2 hb2
   go_upto_region 4 with fail
   have hEn:En s T mb B es u c w (.slice lo2 c.like.length lc2) (.slice fo2 c.flds.length fc2) (.slice mo2 c.mths.length mc2) ((((((((w2.setCell ⟨w.heap.size,0,none⟩ (.string (S c.name))).setCell ⟨w.heap.size,1,none⟩ (.string (S c.sup))).setCell ⟨w.heap.size,2,none⟩ (.slice lo2 c.like.length lc2)).setCell ⟨w.heap.size,3,none⟩ (.bool c.itf)).setCell ⟨w.heap.size,4,none⟩ (.bool c.abs)).setCell ⟨w.heap.size,5,none⟩ (.bool c.fin)).setCell ⟨w.heap.size,6,none⟩ (.slice fo2 c.flds.length fc2)).setCell ⟨w.heap.size,7,none⟩ (.slice mo2 c.mths.length mc2)):=by
    have hbl:=((((((((HB2.o.setCell (p:=⟨w.heap.size,0,none⟩) (Yac _) (.string (S c.name))).setCell (p:=⟨w.heap.size,1,none⟩) (Yac _) (.string (S c.sup))).setCell (p:=⟨w.heap.size,2,none⟩) (Yac _) (.slice lo2 c.like.length lc2)).setCell (p:=⟨w.heap.size,3,none⟩) (Yac _) (.bool c.itf)).setCell (p:=⟨w.heap.size,4,none⟩) (Yac _) (.bool c.abs)).setCell (p:=⟨w.heap.size,5,none⟩) (Yac _) (.bool c.fin)).setCell (p:=⟨w.heap.size,6,none⟩) (Yac _) (.slice fo2 c.flds.length fc2)).setCell (p:=⟨w.heap.size,7,none⟩) (Yac _) (.slice mo2 c.mths.length mc2));have hon:=(((((((((Yan (fun k=>k=w.heap.size) w2).setCell (p:=⟨w.heap.size,0,none⟩) rfl (.string (S c.name))).setCell (p:=⟨w.heap.size,1,none⟩) rfl (.string (S c.sup))).setCell (p:=⟨w.heap.size,2,none⟩) rfl (.slice lo2 c.like.length lc2)).setCell (p:=⟨w.heap.size,3,none⟩) rfl (.bool c.itf)).setCell (p:=⟨w.heap.size,4,none⟩) rfl (.bool c.abs)).setCell (p:=⟨w.heap.size,5,none⟩) rfl (.bool c.fin)).setCell (p:=⟨w.heap.size,6,none⟩) rfl (.slice fo2 c.flds.length fc2)).setCell (p:=⟨w.heap.size,7,none⟩) rfl (.slice mo2 c.mths.length mc2));have hbx:=((((((((HX2.o.set 0 (.string (S c.name))).set 1 (.string (S c.sup))).set 2 (.slice lo2 c.like.length lc2)).set 3 (.bool c.itf)).set 4 (.bool c.abs)).set 5 (.bool c.fin)).set 6 (.slice fo2 c.flds.length fc2)).set 7 (.slice mo2 c.mths.length mc2));have hcl:=ClsR.st.mono (A':=offT s T mb B es.length) (ClsR.st.keep HV2.o hon (fun k hk e=>by have h1:W1.heap.size<=k:=hk;have h2:=HSD.o;have h3:k=w.heap.size:=e;omega)) (fun k _ hk=>by
     have h1:W1.heap.size<=k:=hk;have h2:=HSD.o;obtain ⟨l1,l2,l3⟩:=HLT.o;exact ⟨by omega,by omega,by omega,fun i hi=>by have:=l3 i hi;omega⟩)
    obtain ⟨lv3,fv3,mv3,he3,c1,c2,c3⟩:=hcl;simp only [Value.agg.injEq,Array.mk.injEq,Ya3,and_true,true_and] at he3;obtain ⟨rfl,rfl,rfl⟩:=he3;exact ⟨HT.o.below hbl,hbx,hbl,c1,c2,c3⟩
   refine Zav (En s T mb B es u c w (.slice lo2 c.like.length lc2) (.slice fo2 c.flds.length fc2) (.slice mo2 c.mths.length mc2)) hEn ?_;intro W3 hEn3;clear hEn r0 r1 r2 r3 r4 r5 r6 r7 f0 f1 f2 f3 f4 f5 f6 f7 HX2 HV2 HT2 HB2 HXD HTD HVD HBD;have HE:=Hd hEn3;have hD:=hEn3.drew;have hnl:c.name.length<=9223372036854775807:=by have:=HSM.o.name;omega
   obtain ⟨m1,m2,m3⟩:=hD.tb.push c _ _ _ hp hnl (by have:=HN.o;omega) (Yaq hs hD.bel.size) hD.like hD.flds hD.mths;have HM2:=Hd m2;have HM3:=Hd m3;have g0:=hEn3.tb.tab.box.cell 0 rfl;have r0:=hEn3.box.cell 0 rfl;have r1:=hEn3.box.cell 1 rfl;have r2:=hEn3.box.cell 2 rfl;have r3:=hEn3.box.cell 3 rfl;have r4:=hEn3.box.cell 4 rfl;have r5:=hEn3.box.cell 5 rfl;have r6:=hEn3.box.cell 6 rfl;have r7:=hEn3.box.cell 7 rfl;have lt1:=hEn3.tb.tab.box.lt;have lt2:=hEn3.box.lt;have gl:=fun ty=>hD.tb.tab.map.len (t:=79) Tryz.underlying79 ty
   clear m2 m3 hEn3 hD hnl;have m4:(Instr.mapUpdate 79 (.map (some mb)) (.string (S c.name)) (.pointer (some ⟨W3.heap.size,0,none⟩))).run Tryz.prog ((W3.alloc (.cells #[.int .i64 es.length,.string (S c.name),.string (S c.sup),.slice lo2 c.like.length lc2,.bool c.itf,.bool c.abs,.bool c.fin,.slice fo2 c.flds.length fc2,.slice mo2 c.mths.length mc2,.pointer none,.slice none 0 0] 97)).drew)=.ok () (putW Tryz.prog 79 (.map (some mb)) (.string (S c.name)) (.pointer (some ⟨W3.heap.size,0,none⟩)) ((W3.alloc (.cells #[.int .i64 es.length,.string (S c.name),.string (S c.sup),.slice lo2 c.like.length lc2,.bool c.itf,.bool c.abs,.bool c.fin,.slice fo2 c.flds.length fc2,.slice mo2 c.mths.length mc2,.pointer none,.slice none 0 0] 97)).drew)):=m1;have HM:Hid (Tb s (putW Tryz.prog 79 (.map (some mb)) (.string (S c.name)) (.pointer (some ⟨W3.heap.size,0,none⟩)) ((W3.alloc (.cells #[.int .i64 es.length,.string (S c.name),.string (S c.sup),.slice lo2 c.like.length lc2,.bool c.itf,.bool c.abs,.bool c.fin,.slice fo2 c.flds.length fc2,.slice mo2 c.mths.length mc2,.pointer none,.slice none 0 0] 97)).drew)) T mb (addB B es.length W3.heap.size) (es++[⟨c,none,[]⟩]) u/\Only (fun k=>k=mb) W3.drew (putW Tryz.prog 79 (.map (some mb)) (.string (S c.name)) (.pointer (some ⟨W3.heap.size,0,none⟩)) ((W3.alloc (.cells #[.int .i64 es.length,.string (S c.name),.string (S c.sup),.slice lo2 c.like.length lc2,.bool c.itf,.bool c.abs,.bool c.fin,.slice fo2 c.flds.length fc2,.slice mo2 c.mths.length mc2,.pointer none,.slice none 0 0] 97)).drew))):=Hd ⟨HM2.o,HM3.o⟩;clear m1 HM2 HM3
   go_region
   all_goals
    clear r0 r1 r2 r3 r4 r5 r6 r7 g0 gl m4 lt1 lt2;obtain ⟨m5,m6⟩:=HM.o;have HM5:=Hd m5;have HM6:=Hd m6;have HB5:=Hd HE.o.drew.bel;have HS5:Hid (w.heap.size<=W3.heap.size):=Hd HE.o.bel.size;clear HM m5 m6 HE;generalize putW Tryz.prog 79 (.map (some mb)) (.string (S c.name)) (.pointer (some ⟨W3.heap.size,0,none⟩)) ((W3.alloc (.cells #[.int .i64 es.length,.string (S c.name),.string (S c.sup),.slice lo2 c.like.length lc2,.bool c.itf,.bool c.abs,.bool c.fin,.slice fo2 c.flds.length fc2,.slice mo2 c.mths.length mc2,.pointer none,.slice none 0 0] 97)).drew)=W5 at HM5 HM6 ⊢;go_wp2;go_ret;refine ⟨fun q=>(by rw [hp] at q;cases q),fun _=>⟨rfl,?_,_,HS5.o,HM5.o⟩⟩;exact (Yad HB5.o).trans HM6.o
