/- laws -/
import Derived.Test.YtggcdinoflchjaaGreatDoorK18
set_option maxRecDepth 100000
set_option maxHeartbeats 16000000
namespace Go.Proofs.YtggcdinoflchjaaGreatDoor
open Go.RowKit
def Zdb {α:Type} (n:Nat) (R:Zaq α) (A:Nat->Prop) (l:List α) (w:World) (e:Ending) (w':World):Prop:=∃ v',e=.returned v'/\Cloned n R A w.heap.size w' v' l/\Below w.heap.size w w'
def Zf4 {α:Type} (R:Zaq α) (F:Nat) (caps:Array Value) (l:List α) (w:World):Prop:=
 ∀ (x:α) (v:Value) (W:World),x ∈ l->Below w.heap.size w W->R (fun i=>i<w.heap.size) W x v->Calls Tryz.prog F (#[v]++caps) W (fun e W'=>∃ v',e=.returned v'/\R (fun i=>W.heap.size<=i) W' x v'/\Below W.heap.size W W')
def Zcg {α:Type} (n:Nat) (R:Zaq α) (l:List α) (w:World) (e:Ending) (w':World):Prop:=∃ v',e=.returned v'/\Src n R (fun i=>w.heap.size<=i) w' v' l/\Below w.heap.size w w'
theorem Zm4:(Tryz.prog.info? 9).map (fun i=>(i.zero,i.size,i.bytes))=some (some (.string ⟨#[]⟩),1,16):=by kernel_rfl
theorem Zpr {A:Nat->Prop} {w:World}:∀ x v,StrR A w x v->∀ u ∈ v.cells.toList,u.oneCell'=true:=fun x v h u hu=>by
 obtain rfl:=h;simp [Value.cells] at hu
 rcases hu with rfl <;> rfl
theorem Zjz {A:Nat->Prop} (l:List (List UInt8)) (sv:Value) (w:World) (hs:Src 1 StrR A w sv l) (hl:l.length<=1048576):Calls Tryz.prog 62 #[sv] w (Zdb 1 StrR A l w):=by
 obtain ⟨j0,hji,hz0,hz1,hz2⟩:=info_parts Zm4;have HRUN:=Hd (fun ty=>ZdM (P:=Tryz.prog) (w:=w) (n:=1) (by decide) StrR.st (fun x v h=>Zpr x v h) 22 ty 9 j0 _ 16 Tryz.underlying22 hji hz0 hz1 hz2 rfl hs (by omega) (by omega));obtain ⟨so,sc,rfl⟩:=hs.shape;cases so with
 | none=>
  have hl0:l=[]:=by
   rcases hs with ⟨_,_,_,h⟩|⟨b,o,c,h,_⟩
   ·exact h
   ·simp at h
  subst hl0;have hq:=fun n c=>Lib.run_eql_slice_nil (P:=Tryz.prog) w 22 9 none n c 0 0 Tryz.underlying22
  clear HRUN hs hji hz0 hz1 hz2 hl;go_enter Tryz.func62,Tryz.ntmps62;go_wp2;go_ret;exact ⟨_,rfl,.inl ⟨rfl,_,_,rfl⟩,Yab _ _⟩
 | some a=>
  generalize hn0:l.length=n0 at HRUN ⊢;have hq:=Lib.run_eql_slice_nil (P:=Tryz.prog) w 22 9 (some a) n0 sc 0 0 Tryz.underlying22;clear hn0;clear hs hji hz0 hz1 hz2 hl;go_enter Tryz.func62,Tryz.ntmps62
  go_wp2_with (at_builtin;(obtain ⟨v',w',hrun,hc,hb⟩:=HRUN.o _;refine Zap rfl _ _ 22 rfl _ _ v' w' rfl rfl hrun ?_))
  go_ret;exact ⟨_,rfl,hc,hb⟩
theorem ZhB {A:Nat->Prop} (F:Nat) (caps:Array Value) (he:∀ args w,(callFunc F args).run Tryz.prog w=.ok (.enter F args) w) (l:List (List UInt8)) (sv:Value) (w:World) (hs0:Src 1 StrR A w sv l) (hl:l.length<=1048576) (hF:Zf4 StrR F caps l w) :
  Calls Tryz.prog 163 #[sv,.func (.func F) #[] caps] w (Zcg 1 StrR l w):=by
 have hs:Src 1 StrR (fun i=>i<w.heap.size) w sv l:=StrR.st.srcMono hs0 (fun k hk _=>hk);have HC:=Hd (Zjz l sv w hs hl);unfold Zdb at HC;obtain ⟨so,sc,rfl⟩:=hs.shape;have HE:=Hd he;have HF:=Hd hF;clear he hF hs hs0;obtain ⟨n0,hn0⟩:∃ n0,n0=l.length:=⟨_,rfl⟩
 have HN:=Hd hn0;rw [←hn0] at HC hl ⊢;clear hn0;go_enter Tryz.func163,Tryz.ntmps163
 go_wp2_with fail
 refine HC.o.mono ?_;rintro e w1 ⟨v1,rfl,hc,hb⟩;have HB:=Hd hb;clear hb HC;rcases hc with ⟨hl0,ao,c,rfl⟩|⟨g,c,rfl,hg1,hg2,hg3,hg4,hg5,hg6⟩
 ·have HL0:=Hd hl0;clear hl0;go_wp2
  go_loopw [11] (fun v8 wr=>v8=.int .i64 0/\wr=w1) (fun _ _=>0)
  case atStart=>exact ⟨rfl,rfl⟩
  case round=>
   obtain ⟨rfl,rfl⟩:=hrel;go_wp2;go_ret;exact ⟨_,rfl,by rw [HL0.o];exact .inl ⟨_,_,rfl,rfl⟩,HB.o⟩
 have hinv:CInv 1 StrR w.heap.size g 0 w1 l:=Cloned.inv hg1 hg2 hg5 hg6;have HI:=Hd hinv;have HG3:=Hd hg3;have HG4:=Hd hg4;clear hinv hg1 hg2 hg3 hg4 hg5 hg6;rw [←HN.o];go_wp2
 go_loopw [11] (fun v8 wr=>∃ k:Nat,k<=n0/\v8=.int .i64 k/\CInv 1 StrR w.heap.size g k wr l/\Below w.heap.size w wr) (fun v8 _=>n0 - (intOf v8).toNat)
 case atStart=>exact ⟨0,Yai _,rfl,HI.o,HB.o⟩
 case round=>
  obtain ⟨k,hk,rfl,hinv,hbw⟩:=hrel;have HI2:=Hd hinv;have HBW:=Hd hbw;clear hinv hbw HI;by_cases hlt:k<n0
  ·have hkl:k<l.length:=by have:=HN.o;omega
   obtain ⟨x,hx⟩:∃ x,l[k]? = some x:=⟨_,Yaa hkl⟩
   have HX:=Hd hx;obtain ⟨u,hu,hus,hcl⟩:=HI2.o.elem hx;have hu0:=hu;obtain rfl:=hu;have d0:wr.cell? ⟨g,k,none⟩=some (.string (S x)):=by have q:=hcl 0 (.string (S x)) rfl;rw [YaC] at q;exact q
   have hbA:Below wr.heap.size wr wr:=Yab _ _;have HBA:=Hd hbA;have HFX:Hid (Calls Tryz.prog F (#[.string (S x)]++caps) wr (fun e W'=>∃ v',e=.returned v'/\StrR (fun i=>wr.heap.size<=i) W' x v'/\Below wr.heap.size wr W')):=Hd (HF.o x _ wr (Yad hx) (HBW.o.trans (hbA.mono HBW.o.size)) (StrR.st.keep hu0 (Yaf (S:=fun _=>False) hbA) (fun _ _=>id)));clear hx hcl hus hkl hbA hu0;have hk0:(0:Int)<=k:=by omega
   have hkn:(k:Int)<(n0:Int):=by omega
   have he:=HE.o
   go_wp2_with fail
   refine HFX.o.mono ?_;rintro e w2 ⟨v',rfl,hv,hb2⟩;have HB2:=Hd (HBA.o.trans (hb2.mono HBA.o.size));have HR2:Hid (StrR (fun i=>wr.heap.size<=i) w2 x v'):=Hd (StrR.st.mono hv (fun i _ hi=>Yan HBA.o.size hi));obtain rfl:=hv;have hinv2:=HI2.o.only StrR.st HB2.o;have hst:=HI2.o.store StrR.st HB2.o HX.o HR2.o rfl;have hbf:Below w.heap.size w (setRow w2 g (k * 1) [.string (S x)]):=(HBW.o.trans (HB2.o.mono HBW.o.size)).trans ((ZbO (S:=fun i=>i=g) _ _ _ _ (Yam _ _) rfl).below (Yan HBW.o.size HB2.o.size) (fun i hi=>by subst hi;exact HI2.o.ge));have HST:=Hd hst;have HBF:=Hd hbf;obtain ⟨u2,hu2,hus2,hcl2⟩:=hinv2.elem HX.o;obtain rfl:=hu2;have e0:w2.cell? ⟨g,k,none⟩=some (.string (S x)):=by have q:=hcl2 0 (.string (S x)) rfl;rw [YaC] at q;exact q
   have f0:w2.frozen? ⟨g,k,none⟩=false:=hinv2.free _;clear he hinv2 hst hbf hb2 hcl2 hus2 HFX d0;go_wp2
   go_roundw
   case rel=>
    have q1:CInv 1 StrR w.heap.size g (k+1) (w2.setCell ⟨g,k,none⟩ (.string (S x))) l:=by have q:=HST.o;rw [YaC] at q;exact q
    have q2:Below w.heap.size w (w2.setCell ⟨g,k,none⟩ (.string (S x))):=by have q:=HBF.o;rw [YaC] at q;exact q
    exact ⟨k+1,by omega,by go_num,q1,q2⟩
   case measure=>simp [intOf];omega
  ·obtain rfl:n0=k:=by omega
   go_wp2;go_ret;refine ⟨_,rfl,?_,HBW.o⟩;have h1:=HI2.o;rw [HN.o] at h1 ⊢;exact h1.done StrR.st HG3.o HG4.o
theorem Zm1:(Tryz.prog.info? 99).map (fun i=>(i.zero,i.size,i.bytes))=some (some (.agg #[.string ⟨#[]⟩,.string ⟨#[]⟩,.bool false]),3,40):=by kernel_rfl
theorem Zpo {A:Nat->Prop} {w:World}:∀ x v,FldR A w x v->∀ u ∈ v.cells.toList,u.oneCell'=true:=fun x v h u hu=>by
 obtain rfl:=h;simp [Value.cells] at hu
 rcases hu with rfl|rfl|rfl <;> rfl
theorem Zjw {A:Nat->Prop} (l:List (Fld)) (sv:Value) (w:World) (hs:Src 3 FldR A w sv l) (hl:l.length<=1048576):Calls Tryz.prog 217 #[sv] w (Zdb 3 FldR A l w):=by
 obtain ⟨j0,hji,hz0,hz1,hz2⟩:=info_parts Zm1;have HRUN:=Hd (fun ty=>ZdM (P:=Tryz.prog) (w:=w) (n:=3) (by decide) FldR.st (fun x v h=>Zpo x v h) 84 ty 99 j0 _ 40 Tryz.underlying84 hji hz0 hz1 hz2 rfl hs (by omega) (by omega));obtain ⟨so,sc,rfl⟩:=hs.shape;cases so with
 | none=>
  have hl0:l=[]:=by
   rcases hs with ⟨_,_,_,h⟩|⟨b,o,c,h,_⟩
   ·exact h
   ·simp at h
  subst hl0;have hq:=fun n c=>Lib.run_eql_slice_nil (P:=Tryz.prog) w 84 99 none n c 0 0 Tryz.underlying84
  clear HRUN hs hji hz0 hz1 hz2 hl;go_enter Tryz.func217,Tryz.ntmps217;go_wp2;go_ret;exact ⟨_,rfl,.inl ⟨rfl,_,_,rfl⟩,Yab _ _⟩
 | some a=>
  generalize hn0:l.length=n0 at HRUN ⊢;have hq:=Lib.run_eql_slice_nil (P:=Tryz.prog) w 84 99 (some a) n0 sc 0 0 Tryz.underlying84;clear hn0;clear hs hji hz0 hz1 hz2 hl;go_enter Tryz.func217,Tryz.ntmps217
  go_wp2_with (at_builtin;(obtain ⟨v',w',hrun,hc,hb⟩:=HRUN.o _;refine Zap rfl _ _ 84 rfl _ _ v' w' rfl rfl hrun ?_))
  go_ret;exact ⟨_,rfl,hc,hb⟩
theorem Zmq {A:Nat->Prop} (F:Nat) (caps:Array Value) (he:∀ args w,(callFunc F args).run Tryz.prog w=.ok (.enter F args) w) (l:List (Fld)) (sv:Value) (w:World) (hs0:Src 3 FldR A w sv l) (hl:l.length<=1048576) (hF:Zf4 FldR F caps l w) :
  Calls Tryz.prog 164 #[sv,.func (.func F) #[] caps] w (Zcg 3 FldR l w):=by
 have hs:Src 3 FldR (fun i=>i<w.heap.size) w sv l:=FldR.st.srcMono hs0 (fun k hk _=>hk);have HC:=Hd (Zjw l sv w hs hl);unfold Zdb at HC;obtain ⟨so,sc,rfl⟩:=hs.shape;have HE:=Hd he;have HF:=Hd hF;clear he hF hs hs0;obtain ⟨n0,hn0⟩:∃ n0,n0=l.length:=⟨_,rfl⟩
 have HN:=Hd hn0;rw [←hn0] at HC hl ⊢;clear hn0;go_enter Tryz.func164,Tryz.ntmps164
 go_wp2_with fail
 refine HC.o.mono ?_;rintro e w1 ⟨v1,rfl,hc,hb⟩;have HB:=Hd hb;clear hb HC;rcases hc with ⟨hl0,ao,c,rfl⟩|⟨g,c,rfl,hg1,hg2,hg3,hg4,hg5,hg6⟩
 ·have HL0:=Hd hl0;clear hl0;go_wp2
  go_loopw [11] (fun v8 wr=>v8=.int .i64 0/\wr=w1) (fun _ _=>0)
  case atStart=>exact ⟨rfl,rfl⟩
  case round=>
   obtain ⟨rfl,rfl⟩:=hrel;go_wp2;go_ret;exact ⟨_,rfl,by rw [HL0.o];exact .inl ⟨_,_,rfl,rfl⟩,HB.o⟩
 have hinv:CInv 3 FldR w.heap.size g 0 w1 l:=Cloned.inv hg1 hg2 hg5 hg6;have HI:=Hd hinv;have HG3:=Hd hg3;have HG4:=Hd hg4;clear hinv hg1 hg2 hg3 hg4 hg5 hg6;rw [←HN.o];go_wp2
 go_loopw [11] (fun v8 wr=>∃ k:Nat,k<=n0/\v8=.int .i64 k/\CInv 3 FldR w.heap.size g k wr l/\Below w.heap.size w wr) (fun v8 _=>n0 - (intOf v8).toNat)
 case atStart=>exact ⟨0,Yai _,rfl,HI.o,HB.o⟩
 case round=>
  obtain ⟨k,hk,rfl,hinv,hbw⟩:=hrel;have HI2:=Hd hinv;have HBW:=Hd hbw;clear hinv hbw HI;by_cases hlt:k<n0
  ·have hkl:k<l.length:=by have:=HN.o;omega
   obtain ⟨x,hx⟩:∃ x,l[k]? = some x:=⟨_,Yaa hkl⟩
   have HX:=Hd hx;obtain ⟨u,hu,hus,hcl⟩:=HI2.o.elem hx;have hu0:=hu;obtain rfl:=hu;have d0:wr.cell? ⟨g,k * 3,none⟩=some (.string (S x.name)):=hcl 0 (.string (S x.name)) rfl;have d1:wr.cell? ⟨g,k * 3+1,none⟩=some (.string (S x.kind)):=hcl 1 (.string (S x.kind)) rfl;have d2:wr.cell? ⟨g,k * 3+2,none⟩=some (.bool x.tr):=hcl 2 (.bool x.tr) rfl;have hbA:Below wr.heap.size wr (wr.alloc (.cells #[.string (S x.name),.string (S x.kind),.bool x.tr] 99)):=Zaa (Yab _ _) _;have HBA:=Hd hbA;have HFX:Hid (Calls Tryz.prog F (#[.agg #[.string (S x.name),.string (S x.kind),.bool x.tr]]++caps) (wr.alloc (.cells #[.string (S x.name),.string (S x.kind),.bool x.tr] 99)) (fun e W'=>∃ v',e=.returned v'/\FldR (fun i=>(wr.alloc (.cells #[.string (S x.name),.string (S x.kind),.bool x.tr] 99)).heap.size<=i) W' x v'/\Below (wr.alloc (.cells #[.string (S x.name),.string (S x.kind),.bool x.tr] 99)).heap.size (wr.alloc (.cells #[.string (S x.name),.string (S x.kind),.bool x.tr] 99)) W')):=Hd (HF.o x _ (wr.alloc (.cells #[.string (S x.name),.string (S x.kind),.bool x.tr] 99)) (Yad hx) (HBW.o.trans (hbA.mono HBW.o.size)) (FldR.st.keep hu0 (Yaf (S:=fun _=>False) hbA) (fun _ _=>id)));clear hx hcl hus hkl hbA hu0;have hk0:(0:Int)<=k:=by omega
   have hkn:(k:Int)<(n0:Int):=by omega
   have he:=HE.o
   go_wp2_with fail
   refine HFX.o.mono ?_;rintro e w2 ⟨v',rfl,hv,hb2⟩;have HB2:=Hd (HBA.o.trans (hb2.mono HBA.o.size));have HR2:Hid (FldR (fun i=>wr.heap.size<=i) w2 x v'):=Hd (FldR.st.mono hv (fun i _ hi=>Yan HBA.o.size hi));obtain rfl:=hv;have hinv2:=HI2.o.only FldR.st HB2.o;have hst:=HI2.o.store FldR.st HB2.o HX.o HR2.o rfl;have hbf:Below w.heap.size w (setRow w2 g (k * 3) [.string (S x.name),.string (S x.kind),.bool x.tr]):=(HBW.o.trans (HB2.o.mono HBW.o.size)).trans ((ZbO (S:=fun i=>i=g) _ _ _ _ (Yam _ _) rfl).below (Yan HBW.o.size HB2.o.size) (fun i hi=>by subst hi;exact HI2.o.ge));have HST:=Hd hst;have HBF:=Hd hbf;obtain ⟨u2,hu2,hus2,hcl2⟩:=hinv2.elem HX.o;obtain rfl:=hu2;have e0:w2.cell? ⟨g,k * 3,none⟩=some (.string (S x.name)):=hcl2 0 (.string (S x.name)) rfl;have f0:w2.frozen? ⟨g,k * 3,none⟩=false:=hinv2.free _;have e1:w2.cell? ⟨g,k * 3+1,none⟩=some (.string (S x.kind)):=hcl2 1 (.string (S x.kind)) rfl;have f1:w2.frozen? ⟨g,k * 3+1,none⟩=false:=hinv2.free _;have e2:w2.cell? ⟨g,k * 3+2,none⟩=some (.bool x.tr):=hcl2 2 (.bool x.tr) rfl;have f2:w2.frozen? ⟨g,k * 3+2,none⟩=false:=hinv2.free _;clear he hinv2 hst hbf hb2 hcl2 hus2 HFX d0 d1 d2;go_wp2
   go_roundw
   case rel=>
    have q1:CInv 3 FldR w.heap.size g (k+1) (((w2.setCell ⟨g,k * 3,none⟩ (.string (S x.name))).setCell ⟨g,k * 3+1,none⟩ (.string (S x.kind))).setCell ⟨g,k * 3+2,none⟩ (.bool x.tr)) l:=HST.o;have q2:Below w.heap.size w (((w2.setCell ⟨g,k * 3,none⟩ (.string (S x.name))).setCell ⟨g,k * 3+1,none⟩ (.string (S x.kind))).setCell ⟨g,k * 3+2,none⟩ (.bool x.tr)):=HBF.o;exact ⟨k+1,by omega,by go_num,q1,q2⟩
   case measure=>simp [intOf];omega
  ·obtain rfl:n0=k:=by omega
   go_wp2;go_ret;refine ⟨_,rfl,?_,HBW.o⟩;have h1:=HI2.o;rw [HN.o] at h1 ⊢;exact h1.done FldR.st HG3.o HG4.o
theorem Zm2:(Tryz.prog.info? 48).map (fun i=>(i.zero,i.size,i.bytes))=some (some (.agg #[.string ⟨#[]⟩,.int .i64 0,.string ⟨#[]⟩]),3,40):=by kernel_rfl
theorem Zpp {A:Nat->Prop} {w:World}:∀ x v,InsR A w x v->∀ u ∈ v.cells.toList,u.oneCell'=true:=fun x v h u hu=>by
 obtain rfl:=h;simp [Value.cells] at hu
 rcases hu with rfl|rfl|rfl <;> rfl
theorem Zjx {A:Nat->Prop} (l:List (Ins)) (sv:Value) (w:World) (hs:Src 3 InsR A w sv l) (hl:l.length<=1048576):Calls Tryz.prog 244 #[sv] w (Zdb 3 InsR A l w):=by
 obtain ⟨j0,hji,hz0,hz1,hz2⟩:=info_parts Zm2;have HRUN:=Hd (fun ty=>ZdM (P:=Tryz.prog) (w:=w) (n:=3) (by decide) InsR.st (fun x v h=>Zpp x v h) 37 ty 48 j0 _ 40 Tryz.underlying37 hji hz0 hz1 hz2 rfl hs (by omega) (by omega));obtain ⟨so,sc,rfl⟩:=hs.shape;cases so with
 | none=>
  have hl0:l=[]:=by
   rcases hs with ⟨_,_,_,h⟩|⟨b,o,c,h,_⟩
   ·exact h
   ·simp at h
  subst hl0;have hq:=fun n c=>Lib.run_eql_slice_nil (P:=Tryz.prog) w 37 48 none n c 0 0 Tryz.underlying37
  clear HRUN hs hji hz0 hz1 hz2 hl;go_enter Tryz.func244,Tryz.ntmps244;go_wp2;go_ret;exact ⟨_,rfl,.inl ⟨rfl,_,_,rfl⟩,Yab _ _⟩
 | some a=>
  generalize hn0:l.length=n0 at HRUN ⊢;have hq:=Lib.run_eql_slice_nil (P:=Tryz.prog) w 37 48 (some a) n0 sc 0 0 Tryz.underlying37;clear hn0;clear hs hji hz0 hz1 hz2 hl;go_enter Tryz.func244,Tryz.ntmps244
  go_wp2_with (at_builtin;(obtain ⟨v',w',hrun,hc,hb⟩:=HRUN.o _;refine Zap rfl _ _ 37 rfl _ _ v' w' rfl rfl hrun ?_))
  go_ret;exact ⟨_,rfl,hc,hb⟩
theorem Zmr {A:Nat->Prop} (F:Nat) (caps:Array Value) (he:∀ args w,(callFunc F args).run Tryz.prog w=.ok (.enter F args) w) (l:List (Ins)) (sv:Value) (w:World) (hs0:Src 3 InsR A w sv l) (hl:l.length<=1048576) (hF:Zf4 InsR F caps l w) :
  Calls Tryz.prog 219 #[sv,.func (.func F) #[] caps] w (Zcg 3 InsR l w):=by
 have hs:Src 3 InsR (fun i=>i<w.heap.size) w sv l:=InsR.st.srcMono hs0 (fun k hk _=>hk);have HC:=Hd (Zjx l sv w hs hl);unfold Zdb at HC;obtain ⟨so,sc,rfl⟩:=hs.shape;have HE:=Hd he;have HF:=Hd hF;clear he hF hs hs0;obtain ⟨n0,hn0⟩:∃ n0,n0=l.length:=⟨_,rfl⟩
 have HN:=Hd hn0;rw [←hn0] at HC hl ⊢;clear hn0;go_enter Tryz.func219,Tryz.ntmps219
 go_wp2_with fail
 refine HC.o.mono ?_;rintro e w1 ⟨v1,rfl,hc,hb⟩;have HB:=Hd hb;clear hb HC;rcases hc with ⟨hl0,ao,c,rfl⟩|⟨g,c,rfl,hg1,hg2,hg3,hg4,hg5,hg6⟩
 ·have HL0:=Hd hl0;clear hl0;go_wp2
  go_loopw [11] (fun v8 wr=>v8=.int .i64 0/\wr=w1) (fun _ _=>0)
  case atStart=>exact ⟨rfl,rfl⟩
  case round=>
   obtain ⟨rfl,rfl⟩:=hrel;go_wp2;go_ret;exact ⟨_,rfl,by rw [HL0.o];exact .inl ⟨_,_,rfl,rfl⟩,HB.o⟩
 have hinv:CInv 3 InsR w.heap.size g 0 w1 l:=Cloned.inv hg1 hg2 hg5 hg6;have HI:=Hd hinv;have HG3:=Hd hg3;have HG4:=Hd hg4;clear hinv hg1 hg2 hg3 hg4 hg5 hg6;rw [←HN.o];go_wp2
 go_loopw [11] (fun v8 wr=>∃ k:Nat,k<=n0/\v8=.int .i64 k/\CInv 3 InsR w.heap.size g k wr l/\Below w.heap.size w wr) (fun v8 _=>n0 - (intOf v8).toNat)
 case atStart=>exact ⟨0,Yai _,rfl,HI.o,HB.o⟩
 case round=>
  obtain ⟨k,hk,rfl,hinv,hbw⟩:=hrel;have HI2:=Hd hinv;have HBW:=Hd hbw;clear hinv hbw HI;by_cases hlt:k<n0
  ·have hkl:k<l.length:=by have:=HN.o;omega
   obtain ⟨x,hx⟩:∃ x,l[k]? = some x:=⟨_,Yaa hkl⟩
   have HX:=Hd hx;obtain ⟨u,hu,hus,hcl⟩:=HI2.o.elem hx;have hu0:=hu;obtain rfl:=hu;have d0:wr.cell? ⟨g,k * 3,none⟩=some (.string (S x.op)):=hcl 0 (.string (S x.op)) rfl;have d1:wr.cell? ⟨g,k * 3+1,none⟩=some (.int .i64 x.n):=hcl 1 (.int .i64 x.n) rfl;have d2:wr.cell? ⟨g,k * 3+2,none⟩=some (.string (S x.s)):=hcl 2 (.string (S x.s)) rfl;have hbA:Below wr.heap.size wr (wr.alloc (.cells #[.string (S x.op),.int .i64 x.n,.string (S x.s)] 48)):=Zaa (Yab _ _) _;have HBA:=Hd hbA;have HFX:Hid (Calls Tryz.prog F (#[.agg #[.string (S x.op),.int .i64 x.n,.string (S x.s)]]++caps) (wr.alloc (.cells #[.string (S x.op),.int .i64 x.n,.string (S x.s)] 48)) (fun e W'=>∃ v',e=.returned v'/\InsR (fun i=>(wr.alloc (.cells #[.string (S x.op),.int .i64 x.n,.string (S x.s)] 48)).heap.size<=i) W' x v'/\Below (wr.alloc (.cells #[.string (S x.op),.int .i64 x.n,.string (S x.s)] 48)).heap.size (wr.alloc (.cells #[.string (S x.op),.int .i64 x.n,.string (S x.s)] 48)) W')):=Hd (HF.o x _ (wr.alloc (.cells #[.string (S x.op),.int .i64 x.n,.string (S x.s)] 48)) (Yad hx) (HBW.o.trans (hbA.mono HBW.o.size)) (InsR.st.keep hu0 (Yaf (S:=fun _=>False) hbA) (fun _ _=>id)));clear hx hcl hus hkl hbA hu0;have hk0:(0:Int)<=k:=by omega
   have hkn:(k:Int)<(n0:Int):=by omega
   have he:=HE.o
   go_wp2_with fail
   refine HFX.o.mono ?_;rintro e w2 ⟨v',rfl,hv,hb2⟩;have HB2:=Hd (HBA.o.trans (hb2.mono HBA.o.size));have HR2:Hid (InsR (fun i=>wr.heap.size<=i) w2 x v'):=Hd (InsR.st.mono hv (fun i _ hi=>Yan HBA.o.size hi));obtain rfl:=hv;have hinv2:=HI2.o.only InsR.st HB2.o;have hst:=HI2.o.store InsR.st HB2.o HX.o HR2.o rfl;have hbf:Below w.heap.size w (setRow w2 g (k * 3) [.string (S x.op),.int .i64 x.n,.string (S x.s)]):=(HBW.o.trans (HB2.o.mono HBW.o.size)).trans ((ZbO (S:=fun i=>i=g) _ _ _ _ (Yam _ _) rfl).below (Yan HBW.o.size HB2.o.size) (fun i hi=>by subst hi;exact HI2.o.ge));have HST:=Hd hst;have HBF:=Hd hbf;obtain ⟨u2,hu2,hus2,hcl2⟩:=hinv2.elem HX.o;obtain rfl:=hu2;have e0:w2.cell? ⟨g,k * 3,none⟩=some (.string (S x.op)):=hcl2 0 (.string (S x.op)) rfl;have f0:w2.frozen? ⟨g,k * 3,none⟩=false:=hinv2.free _;have e1:w2.cell? ⟨g,k * 3+1,none⟩=some (.int .i64 x.n):=hcl2 1 (.int .i64 x.n) rfl;have f1:w2.frozen? ⟨g,k * 3+1,none⟩=false:=hinv2.free _;have e2:w2.cell? ⟨g,k * 3+2,none⟩=some (.string (S x.s)):=hcl2 2 (.string (S x.s)) rfl;have f2:w2.frozen? ⟨g,k * 3+2,none⟩=false:=hinv2.free _;clear he hinv2 hst hbf hb2 hcl2 hus2 HFX d0 d1 d2;go_wp2
   go_roundw
   case rel=>
    have q1:CInv 3 InsR w.heap.size g (k+1) (((w2.setCell ⟨g,k * 3,none⟩ (.string (S x.op))).setCell ⟨g,k * 3+1,none⟩ (.int .i64 x.n)).setCell ⟨g,k * 3+2,none⟩ (.string (S x.s))) l:=HST.o;have q2:Below w.heap.size w (((w2.setCell ⟨g,k * 3,none⟩ (.string (S x.op))).setCell ⟨g,k * 3+1,none⟩ (.int .i64 x.n)).setCell ⟨g,k * 3+2,none⟩ (.string (S x.s))):=HBF.o;exact ⟨k+1,by omega,by go_num,q1,q2⟩
   case measure=>simp [intOf];omega
  ·obtain rfl:n0=k:=by omega
   go_wp2;go_ret;refine ⟨_,rfl,?_,HBW.o⟩;have h1:=HI2.o;rw [HN.o] at h1 ⊢;exact h1.done InsR.st HG3.o HG4.o
theorem Zm0:(Tryz.prog.info? 185).map (fun i=>(i.zero,i.size,i.bytes))=some (some (.agg #[.int .i64 0,.int .i64 0,.int .i64 0,.string ⟨#[]⟩]),4,40):=by kernel_rfl
theorem Zpn {A:Nat->Prop} {w:World}:∀ x v,CatR A w x v->∀ u ∈ v.cells.toList,u.oneCell'=true:=fun x v h u hu=>by
 obtain rfl:=h;simp [Value.cells] at hu
 rcases hu with rfl|rfl|rfl|rfl <;> rfl
theorem Zjv {A:Nat->Prop} (l:List (Cat)) (sv:Value) (w:World) (hs:Src 4 CatR A w sv l) (hl:l.length<=1048576):Calls Tryz.prog 245 #[sv] w (Zdb 4 CatR A l w):=by
 obtain ⟨j0,hji,hz0,hz1,hz2⟩:=info_parts Zm0;have HRUN:=Hd (fun ty=>ZdM (P:=Tryz.prog) (w:=w) (n:=4) (by decide) CatR.st (fun x v h=>Zpn x v h) 42 ty 185 j0 _ 40 Tryz.underlying42 hji hz0 hz1 hz2 rfl hs (by omega) (by omega));obtain ⟨so,sc,rfl⟩:=hs.shape;cases so with
 | none=>
  have hl0:l=[]:=by
   rcases hs with ⟨_,_,_,h⟩|⟨b,o,c,h,_⟩
   ·exact h
   ·simp at h
  subst hl0;have hq:=fun n c=>Lib.run_eql_slice_nil (P:=Tryz.prog) w 42 185 none n c 0 0 Tryz.underlying42
  clear HRUN hs hji hz0 hz1 hz2 hl;go_enter Tryz.func245,Tryz.ntmps245;go_wp2;go_ret;exact ⟨_,rfl,.inl ⟨rfl,_,_,rfl⟩,Yab _ _⟩
 | some a=>
  generalize hn0:l.length=n0 at HRUN ⊢;have hq:=Lib.run_eql_slice_nil (P:=Tryz.prog) w 42 185 (some a) n0 sc 0 0 Tryz.underlying42;clear hn0;clear hs hji hz0 hz1 hz2 hl;go_enter Tryz.func245,Tryz.ntmps245
  go_wp2_with (at_builtin;(obtain ⟨v',w',hrun,hc,hb⟩:=HRUN.o _;refine Zap rfl _ _ 42 rfl _ _ v' w' rfl rfl hrun ?_))
  go_ret;exact ⟨_,rfl,hc,hb⟩
theorem Zmp {A:Nat->Prop} (F:Nat) (caps:Array Value) (he:∀ args w,(callFunc F args).run Tryz.prog w=.ok (.enter F args) w) (l:List (Cat)) (sv:Value) (w:World) (hs0:Src 4 CatR A w sv l) (hl:l.length<=1048576) (hF:Zf4 CatR F caps l w) :
  Calls Tryz.prog 221 #[sv,.func (.func F) #[] caps] w (Zcg 4 CatR l w):=by
 have hs:Src 4 CatR (fun i=>i<w.heap.size) w sv l:=CatR.st.srcMono hs0 (fun k hk _=>hk);have HC:=Hd (Zjv l sv w hs hl);unfold Zdb at HC;obtain ⟨so,sc,rfl⟩:=hs.shape;have HE:=Hd he;have HF:=Hd hF;clear he hF hs hs0;obtain ⟨n0,hn0⟩:∃ n0,n0=l.length:=⟨_,rfl⟩
 have HN:=Hd hn0;rw [←hn0] at HC hl ⊢;clear hn0;go_enter Tryz.func221,Tryz.ntmps221
 go_wp2_with fail
 refine HC.o.mono ?_;rintro e w1 ⟨v1,rfl,hc,hb⟩;have HB:=Hd hb;clear hb HC;rcases hc with ⟨hl0,ao,c,rfl⟩|⟨g,c,rfl,hg1,hg2,hg3,hg4,hg5,hg6⟩
 ·have HL0:=Hd hl0;clear hl0;go_wp2
  go_loopw [11] (fun v8 wr=>v8=.int .i64 0/\wr=w1) (fun _ _=>0)
  case atStart=>exact ⟨rfl,rfl⟩
  case round=>
   obtain ⟨rfl,rfl⟩:=hrel;go_wp2;go_ret;exact ⟨_,rfl,by rw [HL0.o];exact .inl ⟨_,_,rfl,rfl⟩,HB.o⟩
 have hinv:CInv 4 CatR w.heap.size g 0 w1 l:=Cloned.inv hg1 hg2 hg5 hg6;have HI:=Hd hinv;have HG3:=Hd hg3;have HG4:=Hd hg4;clear hinv hg1 hg2 hg3 hg4 hg5 hg6;rw [←HN.o];go_wp2
 go_loopw [11] (fun v8 wr=>∃ k:Nat,k<=n0/\v8=.int .i64 k/\CInv 4 CatR w.heap.size g k wr l/\Below w.heap.size w wr) (fun v8 _=>n0 - (intOf v8).toNat)
 case atStart=>exact ⟨0,Yai _,rfl,HI.o,HB.o⟩
 case round=>
  obtain ⟨k,hk,rfl,hinv,hbw⟩:=hrel;have HI2:=Hd hinv;have HBW:=Hd hbw;clear hinv hbw HI;by_cases hlt:k<n0
  ·have hkl:k<l.length:=by have:=HN.o;omega
   obtain ⟨x,hx⟩:∃ x,l[k]? = some x:=⟨_,Yaa hkl⟩
   have HX:=Hd hx;obtain ⟨u,hu,hus,hcl⟩:=HI2.o.elem hx;have hu0:=hu;obtain rfl:=hu;have d0:wr.cell? ⟨g,k * 4,none⟩=some (.int .i64 x.fr):=hcl 0 (.int .i64 x.fr) rfl;have d1:wr.cell? ⟨g,k * 4+1,none⟩=some (.int .i64 x.till):=hcl 1 (.int .i64 x.till) rfl;have d2:wr.cell? ⟨g,k * 4+2,none⟩=some (.int .i64 x.at_):=hcl 2 (.int .i64 x.at_) rfl;have d3:wr.cell? ⟨g,k * 4+3,none⟩=some (.string (S x.cls)):=hcl 3 (.string (S x.cls)) rfl;have hbA:Below wr.heap.size wr (wr.alloc (.cells #[.int .i64 x.fr,.int .i64 x.till,.int .i64 x.at_,.string (S x.cls)] 185)):=Zaa (Yab _ _) _;have HBA:=Hd hbA;have HFX:Hid (Calls Tryz.prog F (#[.agg #[.int .i64 x.fr,.int .i64 x.till,.int .i64 x.at_,.string (S x.cls)]]++caps) (wr.alloc (.cells #[.int .i64 x.fr,.int .i64 x.till,.int .i64 x.at_,.string (S x.cls)] 185)) (fun e W'=>∃ v',e=.returned v'/\CatR (fun i=>(wr.alloc (.cells #[.int .i64 x.fr,.int .i64 x.till,.int .i64 x.at_,.string (S x.cls)] 185)).heap.size<=i) W' x v'/\Below (wr.alloc (.cells #[.int .i64 x.fr,.int .i64 x.till,.int .i64 x.at_,.string (S x.cls)] 185)).heap.size (wr.alloc (.cells #[.int .i64 x.fr,.int .i64 x.till,.int .i64 x.at_,.string (S x.cls)] 185)) W')):=Hd (HF.o x _ (wr.alloc (.cells #[.int .i64 x.fr,.int .i64 x.till,.int .i64 x.at_,.string (S x.cls)] 185)) (Yad hx) (HBW.o.trans (hbA.mono HBW.o.size)) (CatR.st.keep hu0 (Yaf (S:=fun _=>False) hbA) (fun _ _=>id)));clear hx hcl hus hkl hbA hu0;have hk0:(0:Int)<=k:=by omega
   have hkn:(k:Int)<(n0:Int):=by omega
   have he:=HE.o
   go_wp2_with fail
   refine HFX.o.mono ?_;rintro e w2 ⟨v',rfl,hv,hb2⟩;have HB2:=Hd (HBA.o.trans (hb2.mono HBA.o.size));have HR2:Hid (CatR (fun i=>wr.heap.size<=i) w2 x v'):=Hd (CatR.st.mono hv (fun i _ hi=>Yan HBA.o.size hi));obtain rfl:=hv;have hinv2:=HI2.o.only CatR.st HB2.o;have hst:=HI2.o.store CatR.st HB2.o HX.o HR2.o rfl;have hbf:Below w.heap.size w (setRow w2 g (k * 4) [.int .i64 x.fr,.int .i64 x.till,.int .i64 x.at_,.string (S x.cls)]):=(HBW.o.trans (HB2.o.mono HBW.o.size)).trans ((ZbO (S:=fun i=>i=g) _ _ _ _ (Yam _ _) rfl).below (Yan HBW.o.size HB2.o.size) (fun i hi=>by subst hi;exact HI2.o.ge));have HST:=Hd hst;have HBF:=Hd hbf;obtain ⟨u2,hu2,hus2,hcl2⟩:=hinv2.elem HX.o;obtain rfl:=hu2;have e0:w2.cell? ⟨g,k * 4,none⟩=some (.int .i64 x.fr):=hcl2 0 (.int .i64 x.fr) rfl;have f0:w2.frozen? ⟨g,k * 4,none⟩=false:=hinv2.free _;have e1:w2.cell? ⟨g,k * 4+1,none⟩=some (.int .i64 x.till):=hcl2 1 (.int .i64 x.till) rfl;have f1:w2.frozen? ⟨g,k * 4+1,none⟩=false:=hinv2.free _;have e2:w2.cell? ⟨g,k * 4+2,none⟩=some (.int .i64 x.at_):=hcl2 2 (.int .i64 x.at_) rfl;have f2:w2.frozen? ⟨g,k * 4+2,none⟩=false:=hinv2.free _;have e3:w2.cell? ⟨g,k * 4+3,none⟩=some (.string (S x.cls)):=hcl2 3 (.string (S x.cls)) rfl;have f3:w2.frozen? ⟨g,k * 4+3,none⟩=false:=hinv2.free _;clear he hinv2 hst hbf hb2 hcl2 hus2 HFX d0 d1 d2 d3;go_wp2
   go_roundw
   case rel=>
    have q1:CInv 4 CatR w.heap.size g (k+1) ((((w2.setCell ⟨g,k * 4,none⟩ (.int .i64 x.fr)).setCell ⟨g,k * 4+1,none⟩ (.int .i64 x.till)).setCell ⟨g,k * 4+2,none⟩ (.int .i64 x.at_)).setCell ⟨g,k * 4+3,none⟩ (.string (S x.cls))) l:=HST.o;have q2:Below w.heap.size w ((((w2.setCell ⟨g,k * 4,none⟩ (.int .i64 x.fr)).setCell ⟨g,k * 4+1,none⟩ (.int .i64 x.till)).setCell ⟨g,k * 4+2,none⟩ (.int .i64 x.at_)).setCell ⟨g,k * 4+3,none⟩ (.string (S x.cls))):=HBF.o;exact ⟨k+1,by omega,by go_num,q1,q2⟩
   case measure=>simp [intOf];omega
  ·obtain rfl:n0=k:=by omega
   go_wp2;go_ret;refine ⟨_,rfl,?_,HBW.o⟩;have h1:=HI2.o;rw [HN.o] at h1 ⊢;exact h1.done CatR.st HG3.o HG4.o
theorem Zm3:(Tryz.prog.info? 44).map (fun i=>(i.zero,i.size,i.bytes))=some (some (.agg #[.string ⟨#[]⟩,.slice none 0 0,.string ⟨#[]⟩,.bool false,.int .i64 0,.slice none 0 0,.slice none 0 0]),7,120):=by kernel_rfl
theorem Zpq {A:Nat->Prop} {w:World}:∀ x v,MthR A w x v->∀ u ∈ v.cells.toList,u.oneCell'=true:=fun x v h u hu=>by
 obtain ⟨pv,cv,kv,rfl,⟨po,pc,rfl⟩,⟨co,cc,rfl⟩,⟨ko,kc,rfl⟩⟩:=Zan h;simp [Value.cells] at hu
 rcases hu with rfl|rfl|rfl|rfl|rfl|rfl|rfl <;> rfl
theorem Zjy {A:Nat->Prop} (l:List (Mth)) (sv:Value) (w:World) (hs:Src 7 MthR A w sv l) (hl:l.length<=1048576):Calls Tryz.prog 218 #[sv] w (Zdb 7 MthR A l w):=by
 obtain ⟨j0,hji,hz0,hz1,hz2⟩:=info_parts Zm3;have HRUN:=Hd (fun ty=>ZdM (P:=Tryz.prog) (w:=w) (n:=7) (by decide) MthR.st (fun x v h=>Zpq x v h) 85 ty 44 j0 _ 120 Tryz.underlying85 hji hz0 hz1 hz2 rfl hs (by omega) (by omega));obtain ⟨so,sc,rfl⟩:=hs.shape;cases so with
 | none=>
  have hl0:l=[]:=by
   rcases hs with ⟨_,_,_,h⟩|⟨b,o,c,h,_⟩
   ·exact h
   ·simp at h
  subst hl0;have hq:=fun n c=>Lib.run_eql_slice_nil (P:=Tryz.prog) w 85 44 none n c 0 0 Tryz.underlying85
  clear HRUN hs hji hz0 hz1 hz2 hl;go_enter Tryz.func218,Tryz.ntmps218;go_wp2;go_ret;exact ⟨_,rfl,.inl ⟨rfl,_,_,rfl⟩,Yab _ _⟩
 | some a=>
  generalize hn0:l.length=n0 at HRUN ⊢;have hq:=Lib.run_eql_slice_nil (P:=Tryz.prog) w 85 44 (some a) n0 sc 0 0 Tryz.underlying85;clear hn0;clear hs hji hz0 hz1 hz2 hl;go_enter Tryz.func218,Tryz.ntmps218
  go_wp2_with (at_builtin;(obtain ⟨v',w',hrun,hc,hb⟩:=HRUN.o _;refine Zap rfl _ _ 85 rfl _ _ v' w' rfl rfl hrun ?_))
  go_ret;exact ⟨_,rfl,hc,hb⟩
theorem Zms {A:Nat->Prop} (F:Nat) (caps:Array Value) (he:∀ args w,(callFunc F args).run Tryz.prog w=.ok (.enter F args) w) (l:List (Mth)) (sv:Value) (w:World) (hs0:Src 7 MthR A w sv l) (hl:l.length<=1048576) (hF:Zf4 MthR F caps l w) :
  Calls Tryz.prog 166 #[sv,.func (.func F) #[] caps] w (Zcg 7 MthR l w):=by
 have hs:Src 7 MthR (fun i=>i<w.heap.size) w sv l:=MthR.st.srcMono hs0 (fun k hk _=>hk);have HC:=Hd (Zjy l sv w hs hl);unfold Zdb at HC;obtain ⟨so,sc,rfl⟩:=hs.shape;have HE:=Hd he;have HF:=Hd hF;clear he hF hs hs0;obtain ⟨n0,hn0⟩:∃ n0,n0=l.length:=⟨_,rfl⟩
 have HN:=Hd hn0;rw [←hn0] at HC hl ⊢;clear hn0;go_enter Tryz.func166,Tryz.ntmps166
 go_wp2_with fail
 refine HC.o.mono ?_;rintro e w1 ⟨v1,rfl,hc,hb⟩;have HB:=Hd hb;clear hb HC;rcases hc with ⟨hl0,ao,c,rfl⟩|⟨g,c,rfl,hg1,hg2,hg3,hg4,hg5,hg6⟩
 ·have HL0:=Hd hl0;clear hl0;go_wp2
  go_loopw [11] (fun v8 wr=>v8=.int .i64 0/\wr=w1) (fun _ _=>0)
  case atStart=>exact ⟨rfl,rfl⟩
  case round=>
   obtain ⟨rfl,rfl⟩:=hrel;go_wp2;go_ret;exact ⟨_,rfl,by rw [HL0.o];exact .inl ⟨_,_,rfl,rfl⟩,HB.o⟩
 have hinv:CInv 7 MthR w.heap.size g 0 w1 l:=Cloned.inv hg1 hg2 hg5 hg6;have HI:=Hd hinv;have HG3:=Hd hg3;have HG4:=Hd hg4;clear hinv hg1 hg2 hg3 hg4 hg5 hg6;rw [←HN.o];go_wp2
 go_loopw [11] (fun v8 wr=>∃ k:Nat,k<=n0/\v8=.int .i64 k/\CInv 7 MthR w.heap.size g k wr l/\Below w.heap.size w wr) (fun v8 _=>n0 - (intOf v8).toNat)
 case atStart=>exact ⟨0,Yai _,rfl,HI.o,HB.o⟩
 case round=>
  obtain ⟨k,hk,rfl,hinv,hbw⟩:=hrel;have HI2:=Hd hinv;have HBW:=Hd hbw;clear hinv hbw HI;by_cases hlt:k<n0
  ·have hkl:k<l.length:=by have:=HN.o;omega
   obtain ⟨x,hx⟩:∃ x,l[k]? = some x:=⟨_,Yaa hkl⟩
   have HX:=Hd hx;obtain ⟨u,hu,hus,hcl⟩:=HI2.o.elem hx;have hu0:=hu;obtain ⟨pv,cv,kv,rfl,⟨po1,pc1,rfl⟩,⟨co1,cc1,rfl⟩,⟨ko1,kc1,rfl⟩⟩:=Zan hu;have d0:wr.cell? ⟨g,k * 7,none⟩=some (.string (S x.name)):=hcl 0 (.string (S x.name)) rfl;have d1:wr.cell? ⟨g,k * 7+1,none⟩=some (.slice po1 x.params.length pc1):=hcl 1 (.slice po1 x.params.length pc1) rfl;have d2:wr.cell? ⟨g,k * 7+2,none⟩=some (.string (S x.res)):=hcl 2 (.string (S x.res)) rfl;have d3:wr.cell? ⟨g,k * 7+3,none⟩=some (.bool x.abs):=hcl 3 (.bool x.abs) rfl;have d4:wr.cell? ⟨g,k * 7+4,none⟩=some (.int .i64 x.loc):=hcl 4 (.int .i64 x.loc) rfl;have d5:wr.cell? ⟨g,k * 7+5,none⟩=some (.slice co1 x.code.length cc1):=hcl 5 (.slice co1 x.code.length cc1) rfl;have d6:wr.cell? ⟨g,k * 7+6,none⟩=some (.slice ko1 x.cats.length kc1):=hcl 6 (.slice ko1 x.cats.length kc1) rfl;have hbA:Below wr.heap.size wr (wr.alloc (.cells #[.string (S x.name),.slice po1 x.params.length pc1,.string (S x.res),.bool x.abs,.int .i64 x.loc,.slice co1 x.code.length cc1,.slice ko1 x.cats.length kc1] 44)):=Zaa (Yab _ _) _;have HBA:=Hd hbA;have HFX:Hid (Calls Tryz.prog F (#[.agg #[.string (S x.name),.slice po1 x.params.length pc1,.string (S x.res),.bool x.abs,.int .i64 x.loc,.slice co1 x.code.length cc1,.slice ko1 x.cats.length kc1]]++caps) (wr.alloc (.cells #[.string (S x.name),.slice po1 x.params.length pc1,.string (S x.res),.bool x.abs,.int .i64 x.loc,.slice co1 x.code.length cc1,.slice ko1 x.cats.length kc1] 44)) (fun e W'=>∃ v',e=.returned v'/\MthR (fun i=>(wr.alloc (.cells #[.string (S x.name),.slice po1 x.params.length pc1,.string (S x.res),.bool x.abs,.int .i64 x.loc,.slice co1 x.code.length cc1,.slice ko1 x.cats.length kc1] 44)).heap.size<=i) W' x v'/\Below (wr.alloc (.cells #[.string (S x.name),.slice po1 x.params.length pc1,.string (S x.res),.bool x.abs,.int .i64 x.loc,.slice co1 x.code.length cc1,.slice ko1 x.cats.length kc1] 44)).heap.size (wr.alloc (.cells #[.string (S x.name),.slice po1 x.params.length pc1,.string (S x.res),.bool x.abs,.int .i64 x.loc,.slice co1 x.code.length cc1,.slice ko1 x.cats.length kc1] 44)) W')):=Hd (HF.o x _ (wr.alloc (.cells #[.string (S x.name),.slice po1 x.params.length pc1,.string (S x.res),.bool x.abs,.int .i64 x.loc,.slice co1 x.code.length cc1,.slice ko1 x.cats.length kc1] 44)) (Yad hx) (HBW.o.trans (hbA.mono HBW.o.size)) (MthR.st.keep hu0 (Yaf (S:=fun _=>False) hbA) (fun _ _=>id)));clear hx hcl hus hkl hbA hu0;have hk0:(0:Int)<=k:=by omega
   have hkn:(k:Int)<(n0:Int):=by omega
   have he:=HE.o
   go_wp2_with fail
   refine HFX.o.mono ?_;rintro e w2 ⟨v',rfl,hv,hb2⟩;have HB2:=Hd (HBA.o.trans (hb2.mono HBA.o.size));have HR2:Hid (MthR (fun i=>wr.heap.size<=i) w2 x v'):=Hd (MthR.st.mono hv (fun i _ hi=>Yan HBA.o.size hi));have hv0:=hv;obtain ⟨pv,cv,kv,rfl,⟨po2,pc2,rfl⟩,⟨co2,cc2,rfl⟩,⟨ko2,kc2,rfl⟩⟩:=Zan hv;have hinv2:=HI2.o.only MthR.st HB2.o;have hst:=HI2.o.store MthR.st HB2.o HX.o HR2.o rfl;have hbf:Below w.heap.size w (setRow w2 g (k * 7) [.string (S x.name),.slice po2 x.params.length pc2,.string (S x.res),.bool x.abs,.int .i64 x.loc,.slice co2 x.code.length cc2,.slice ko2 x.cats.length kc2]):=(HBW.o.trans (HB2.o.mono HBW.o.size)).trans ((ZbO (S:=fun i=>i=g) _ _ _ _ (Yam _ _) rfl).below (Yan HBW.o.size HB2.o.size) (fun i hi=>by subst hi;exact HI2.o.ge));have HST:=Hd hst;have HBF:=Hd hbf;obtain ⟨u2,hu2,hus2,hcl2⟩:=hinv2.elem HX.o;have hu20:=hu2;obtain ⟨pv,cv,kv,rfl,⟨po3,pc3,rfl⟩,⟨co3,cc3,rfl⟩,⟨ko3,kc3,rfl⟩⟩:=Zan hu2;have e0:w2.cell? ⟨g,k * 7,none⟩=some (.string (S x.name)):=hcl2 0 (.string (S x.name)) rfl;have f0:w2.frozen? ⟨g,k * 7,none⟩=false:=hinv2.free _;have e1:w2.cell? ⟨g,k * 7+1,none⟩=some (.slice po3 x.params.length pc3):=hcl2 1 (.slice po3 x.params.length pc3) rfl;have f1:w2.frozen? ⟨g,k * 7+1,none⟩=false:=hinv2.free _;have e2:w2.cell? ⟨g,k * 7+2,none⟩=some (.string (S x.res)):=hcl2 2 (.string (S x.res)) rfl;have f2:w2.frozen? ⟨g,k * 7+2,none⟩=false:=hinv2.free _;have e3:w2.cell? ⟨g,k * 7+3,none⟩=some (.bool x.abs):=hcl2 3 (.bool x.abs) rfl;have f3:w2.frozen? ⟨g,k * 7+3,none⟩=false:=hinv2.free _;have e4:w2.cell? ⟨g,k * 7+4,none⟩=some (.int .i64 x.loc):=hcl2 4 (.int .i64 x.loc) rfl;have f4:w2.frozen? ⟨g,k * 7+4,none⟩=false:=hinv2.free _;have e5:w2.cell? ⟨g,k * 7+5,none⟩=some (.slice co3 x.code.length cc3):=hcl2 5 (.slice co3 x.code.length cc3) rfl;have f5:w2.frozen? ⟨g,k * 7+5,none⟩=false:=hinv2.free _;have e6:w2.cell? ⟨g,k * 7+6,none⟩=some (.slice ko3 x.cats.length kc3):=hcl2 6 (.slice ko3 x.cats.length kc3) rfl;have f6:w2.frozen? ⟨g,k * 7+6,none⟩=false:=hinv2.free _;clear he hinv2 hst hbf hb2 hcl2 hus2 HFX d0 d1 d2 d3 d4 d5 d6 hv0 hu20;go_wp2
   go_roundw
   case rel=>
    have q1:CInv 7 MthR w.heap.size g (k+1) (((((((w2.setCell ⟨g,k * 7,none⟩ (.string (S x.name))).setCell ⟨g,k * 7+1,none⟩ (.slice po2 x.params.length pc2)).setCell ⟨g,k * 7+2,none⟩ (.string (S x.res))).setCell ⟨g,k * 7+3,none⟩ (.bool x.abs)).setCell ⟨g,k * 7+4,none⟩ (.int .i64 x.loc)).setCell ⟨g,k * 7+5,none⟩ (.slice co2 x.code.length cc2)).setCell ⟨g,k * 7+6,none⟩ (.slice ko2 x.cats.length kc2)) l:=HST.o;have q2:Below w.heap.size w (((((((w2.setCell ⟨g,k * 7,none⟩ (.string (S x.name))).setCell ⟨g,k * 7+1,none⟩ (.slice po2 x.params.length pc2)).setCell ⟨g,k * 7+2,none⟩ (.string (S x.res))).setCell ⟨g,k * 7+3,none⟩ (.bool x.abs)).setCell ⟨g,k * 7+4,none⟩ (.int .i64 x.loc)).setCell ⟨g,k * 7+5,none⟩ (.slice co2 x.code.length cc2)).setCell ⟨g,k * 7+6,none⟩ (.slice ko2 x.cats.length kc2)):=HBF.o;exact ⟨k+1,by omega,by go_num,q1,q2⟩
   case measure=>simp [intOf];omega
  ·obtain rfl:n0=k:=by omega
   go_wp2;go_ret;refine ⟨_,rfl,?_,HBW.o⟩;have h1:=HI2.o;rw [HN.o] at h1 ⊢;exact h1.done MthR.st HG3.o HG4.o
