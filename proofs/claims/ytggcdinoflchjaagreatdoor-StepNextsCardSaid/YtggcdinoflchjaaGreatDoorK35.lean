/- laws -/
import Derived.Test.YtggcdinoflchjaaGreatDoorK34
set_option maxRecDepth 100000
set_option maxHeartbeats 16000000
namespace Go.Proofs.YtggcdinoflchjaaGreatDoor
open Go.RowKit
def NewBad (cs:List Cls) (i:Int) (z:Nat):Prop:=
 (∃ (k:Nat) (c:Cls),i=(k:Nat)/\cs[k]? = some c/\z=c.e/\c.e ≠ 0/\∀ j d,j<k->cs[j]? = some d->d.e=0)\/
 (∀ c ∈ cs,c.e=0)/\((∃ (k:Nat) (c:Cls),i=(k:Nat)/\cs[k]? = some c/\z=60/\(Zad (Zaw cs k) c.name).isSome=true/\∀ j d,j<k->cs[j]? = some d->Zad (Zaw cs j) d.name=none)\/
 (∀ k c,cs[k]? = some c->Zad (Zaw cs k) c.name=none)/\((∃ (k:Nat) (c:Cls),i=(k:Nat)/\cs[k]? = some c/\(z=61/\upE (Zas cs) c.sup=none\/z=62/\(upE (Zas cs) c.sup).isSome=true/\ZaF (Zas cs) c.like=false)/\
   ∀ j d,j<k->cs[j]? = some d->(upE (Zas cs) d.sup).isSome=true/\ZaF (Zas cs) d.like=true)\/
 Lined cs/\((0<=firstT (ZaG (newT cs) (newT cs).length).loop/\i=firstT (ZaG (newT cs) (newT cs).length).loop - 8/\z=63)\/
  (firstT (ZaG (newT cs) (newT cs).length).loop<0/\∃ (k x:Nat),(Zb1 (newT cs) (newT cs).length)[k]? = some x/\i=(x:Int) - 8/\z=chkT (newT cs) x/\chkT (newT cs) x ≠ 0/\∀ j y,j<k->(Zb1 (newT cs) (newT cs).length)[j]? = some y->chkT (newT cs) y=0))))
structure NewOk (cs:List Cls):Prop where
 lined:Lined cs
 loops:firstT (ZaG (newT cs) (newT cs).length).loop<0
 checks:∀ x ∈ Zb1 (newT cs) (newT cs).length,chkT (newT cs) x=0
def NewG (cs:List Cls) (w:World) (e:Ending) (w':World):Prop:=
 (∃ i z,NewBad cs i z/\e=.returned (.tuple #[.pointer none,.int .i64 i,.int .i64 (z:Nat)])/\Below w.heap.size w w')\/
 (NewOk cs/\∃ T mb B,e=.returned (.tuple #[.pointer (some ⟨T,0,none⟩),.int .i64 0,.int .i64 0])/\Tb w.heap.size w' T mb B (newT cs) (newT cs).length/\Below w.heap.size w w')
theorem Zj8 {l:List Bool} (h:firstT l<0):∀ b ∈ l,b=false:=fun b hb=>by
 unfold firstT at h;split at h
 ·omega
 ·rename_i hn
  cases hb2:b with
  | false=>rfl
  | true=>
   exfalso
   subst hb2;exact hn (List.findIdx_lt_length_of_exists ⟨true,hb,rfl⟩)
theorem Zem {es:List Ent} (hf:(ZaG es es.length).loop.length=es.length/\∀ x,x<es.length->((ZaG es es.length).loop.getD x false=true↔Over es x x)) (h:firstT (ZaG es es.length).loop<0):Acyc es:=fun x ho=>by
 have hx:x<es.length:=by
  obtain ⟨d,hd,_⟩:=ho;rcases Nat.lt_or_ge x es.length with h1|h1
  ·exact h1
  ·unfold parE at hd;rw [List.getElem?_eq_none h1] at hd;cases hd
 have h1:=(hf.2 x hx).2 ho;rw [List.getD_eq_getElem?_getD,List.getElem?_eq_getElem (by rw [hf.1];exact hx)] at h1;have h2:=Zj8 h _ (List.getElem_mem (l:=(ZaG es es.length).loop) (n:=x) (by rw [hf.1];exact hx));rw [h2] at h1;cases h1
theorem Zf5 {es:List Ent} (hp:ZcZ es):∀ (f:Nat) (s:List Bool × List Nat) (c:Nat),c<es.length->∀ x ∈ (Zar es f s c).2,x ∈ s.2\/x<es.length
 | 0,s,c,_,x,hx=>.inl hx
 | f+1,s,c,hc,x,hx=>by
  have ih:=Zf5 hp f;have fold:∀ (l:List Nat) (s:List Bool × List Nat),(∀ d ∈ l,d<es.length)->∀ x ∈ (l.foldl (Zar es f) s).2,x ∈ s.2\/x<es.length:=by
   intro l;induction l with
   | nil=>intro s _ x hx;exact .inl hx
   | cons d l ihl=>
    intro s hd x hx;rw [List.foldl_cons] at hx;rcases ihl _ (fun y hy=>hd y (List.mem_cons_of_mem d hy)) x hx with h|h
    ·exact ih s d (hd d List.mem_cons_self) x h
    ·exact .inr h
  unfold Zar at hx;split at hx
  ·exact .inl hx
  ·dsimp only at hx;rcases List.mem_append.1 hx with h|h
   ·exact fold (parE es c) (s.1.set c true,s.2) (hp c) x h
   ·rw [List.mem_singleton.1 h];exact .inr hc
theorem Zng {es:List Ent} (hp:ZcZ es):∀ y ∈ Zb1 es es.length,y<es.length:=fun y hy=>by
 have fold:∀ (l:List Nat) (s:List Bool × List Nat),(∀ d ∈ l,d<es.length)->∀ x ∈ (l.foldl (Zar es es.length) s).2,x ∈ s.2\/x<es.length:=by
  intro l;induction l with
  | nil=>intro s _ x hx;exact .inl hx
  | cons d l ihl=>
   intro s hd x hx;rw [List.foldl_cons] at hx;rcases ihl _ (fun y hy=>hd y (List.mem_cons_of_mem d hy)) x hx with h|h
   ·exact Zf5 hp _ s d (hd d List.mem_cons_self) x h
   ·exact .inr h
 rcases fold (List.range es.length) _ (fun d hd=>List.mem_range.1 hd) y hy with h|h
 ·cases h
 ·exact h
theorem Zk3 {es:List Ent} (hp:ZcZ es):(Zb1 es es.length).length<=es.length:=by
 have h1:=Zdx hp es.length (List.range es.length) (List.replicate es.length false,[]) (by simp) (fun d hd=>List.mem_range.1 hd);have h2:=ZdB (List.replicate es.length false);rw [List.length_replicate] at h2;have h3:(([]:List Nat)).length=0:=rfl;dsimp only at h1;unfold Zb1;omega
theorem Lined.goodT {cs:List Cls} (h:Lined cs):Zf9 (newT cs):=fun i m hm=>by
 unfold Zaq at hm;cases he:(newT cs)[i]? with
 | none=>rw [he] at hm;cases hm
 | some e=>
  rw [he] at hm;rcases Zba he with ⟨h1,h2⟩|⟨h1,x,h2,rfl⟩
  ·have h3:startL.all (fun e=>e.cls.mths.isEmpty)=true:=by decide
   have h4:=List.all_eq_true.1 h3 e (List.mem_of_getElem? h2);rw [List.isEmpty_iff] at h4;dsimp only at hm;rw [h4] at hm;cases hm
  ·exact (h.good x (List.mem_of_getElem? h2)).mths m hm
theorem fitT {cs:List Cls} (hf:∀ c ∈ cs,c.Fit) (i:Nat):(ZeR (newT cs) i).Fit:=by
 have hs:∀ c:Cls,c.name.length<=32->c.sup.length<=32->c.like=[]->c.mths=[]->c.flds.length<=32->(∀ f ∈ c.flds,f.name.length<=32/\f.kind.length<=32)->c.Fit:=fun c h1 h2 h3 h4 h5 h6=>by
  refine ⟨?_,?_,fun x hx=>?_,fun f hf=>⟨?_,?_⟩,fun m hm=>?_,?_,?_,?_⟩
  ·unfold ZaK;omega
  ·unfold ZaK;omega
  ·rw [h3] at hx;cases hx
  ·have:=(h6 f hf).1;unfold ZaK;omega
  ·have:=(h6 f hf).2;unfold ZaK;omega
  ·rw [h4] at hm;cases hm
  ·rw [h3];simp
  ·omega
  ·rw [h4];simp
 unfold ZeR;cases he:(newT cs)[i]? with
 | none=>exact hs objC (by decide) (by decide) rfl rfl (by decide) (by decide)
 | some e=>
  rcases Zba he with ⟨h1,h2⟩|⟨h1,x,h2,rfl⟩
  ·have h3:startL.all (fun e=>decide (e.cls.name.length<=32/\e.cls.sup.length<=32/\e.cls.like=[]/\e.cls.flds.length<=32/\e.cls.flds.all (fun f=>decide (f.name.length<=32/\f.kind.length<=32))=true) && e.cls.mths.isEmpty)=true:=by decide
   have h4:=List.all_eq_true.1 h3 e (List.mem_of_getElem? h2);rw [Bool.and_eq_true,List.isEmpty_iff] at h4;obtain ⟨h5,h6⟩:=h4;obtain ⟨a1,a2,a3,a4,a5⟩:=of_decide_eq_true h5;exact hs e.cls a1 a2 a3 h6 a4 (fun f hf=>of_decide_eq_true (List.all_eq_true.1 a5 f hf))
  ·exact hf x (List.mem_of_getElem? h2)
structure NewJ (w:World) (T mb FB:Nat) (B:Nat->Nat) (es:List Ent) (u:Nat) (wr:World):Prop where
 tb:Tb w.heap.size wr T mb B es u
 bel:Below w.heap.size w wr
 fb:Box wr FB #[.func (.func 43) #[] #[],.func (.func 44) #[.pointer (some ⟨T,0,none⟩)] #[],.func (.func 45) #[.pointer (some ⟨T,0,none⟩)] #[]] 82
 nB:∀ i,i<es.length->B i ≠ FB
 nM:mb ≠ FB
theorem NewJ.below {w:World} {T mb FB:Nat} {B:Nat->Nat} {es:List Ent} {u:Nat} {wr W:World} (h:NewJ w T mb FB B es u wr) (hb:Below wr.heap.size wr W):NewJ w T mb FB B es u W:=
 ⟨h.tb.below hb,h.bel.trans (hb.mono h.bel.size),h.fb.below hb,h.nB,h.nM⟩
def ZqQ (w:World) (cs:List Cls) (T mb FB s:Nat) (wr:World):Prop:=∃ B es u,NewJ w T mb FB B es u wr/\
 ((s=0/\es=startL/\u=8)\/(s=1/\es=startL/\u=8/\∀ c ∈ cs,c.e=0)\/
  (s=2/\es=Zas cs/\u=8/\(∀ c ∈ cs,c.e=0)/\∀ k c,cs[k]? = some c->Zad (Zaw cs k) c.name=none)\/
  (s=3/\es=newT cs/\u=(newT cs).length/\Lined cs))
theorem ZpX {A:Nat->Prop} (cs:List Cls) (sv:Value) (w:World) (hs:Src 8 ClsR A w sv cs) (hF:FaultTab w) (hC:CT w) (hfit:∀ c ∈ cs,c.Fit) (hheld:∀ c ∈ cs,c.held) (hlen:cs.length<=1000) :
  Calls Tryz.prog 25 #[sv] w (NewG cs w):=by
 have hmf:∀ (fn:Fn) (first cap:Array Value) (w:World),(Instr.makeFunc fn first cap).run Tryz.prog w=.ok (.func fn first cap) w:=fun _ _ _ _=>rfl
 have he0:∀ args w,(callFunc 43 args).run Tryz.prog w=.ok (.enter 43 args) w:=Zai Tryz.func43 (by kernel_rfl) rfl
 have he1:∀ args w,(callFunc 44 args).run Tryz.prog w=.ok (.enter 44 args) w:=Zai Tryz.func44 (by kernel_rfl) rfl
 have he2:∀ args w,(callFunc 45 args).run Tryz.prog w=.ok (.enter 45 args) w:=Zai Tryz.func45 (by kernel_rfl) rfl
 obtain ⟨so,sc,rfl⟩:=hs.shape;obtain ⟨n,hn⟩:∃ n,n=cs.length:=⟨_,rfl⟩
 have HS:=Hd (ClsR.st.srcMono (A':=fun k=>k<w.heap.size) hs (fun k hk _=>hk));have HST:=Hd (ZnF w hF);have HC:=Hd hC;have HFIT:=Hd hfit;have HHELD:=Hd hheld;rw [←hn] at HS hlen ⊢;have HN:=Hd hn;clear hs hF hC hn hfit hheld;go_enter Tryz.func25,Tryz.ntmps25
 go_wp2_with fail
 refine HST.out.mono ?_;rintro e1 w1 ⟨T,mb,B,rfl,htb,hb1⟩;have HTB:=Hd htb;have HB1:=Hd hb1;have t1:w1.cell? ⟨T,0,none⟩=some (.map (some mb)):=htb.tab.box.cell 0 rfl;have hln:=fun ty=>htb.tab.map.len (t:=79) Tryz.underlying79 ty
 rw [ZaE] at hln;clear htb hb1 HST
 go_upto_region 4 with fail
 clear t1 hln;have hJ0:NewJ w T mb w1.heap.size B startL 8 (w1.alloc (.cells #[.func (.func 43) #[] #[],.func (.func 44) #[.pointer (some ⟨T,0,none⟩)] #[],.func (.func 45) #[.pointer (some ⟨T,0,none⟩)] #[]] 82)):=by
  have hbe:Below w1.heap.size w1 (w1.alloc (.cells #[.func (.func 43) #[] #[],.func (.func 44) #[.pointer (some ⟨T,0,none⟩)] #[],.func (.func 45) #[.pointer (some ⟨T,0,none⟩)] #[]] 82)):=Zaa (Below.refl _ _) _;exact ⟨HTB.out.below hbe,HB1.out.trans (hbe.mono HB1.out.size),Box.new w1 _ _,fun i hi e=>by have:=HTB.out.tab.lt hi;omega,fun e=>by have:=HTB.out.tab.map.lt;omega⟩
 generalize w1.heap.size=FB at hJ0 ⊢;generalize w1.alloc (.cells #[.func (.func 43) #[] #[],.func (.func 44) #[.pointer (some ⟨T,0,none⟩)] #[],.func (.func 45) #[.pointer (some ⟨T,0,none⟩)] #[]] 82)=W2 at hJ0 ⊢;have HJ0:=Hd hJ0;clear hJ0 HTB HB1
 go_loopw [29] (fun v29 wr=>∃ s:Nat,s<=3/\v29=.int .i64 s/\ZqQ w cs T mb FB s wr) (fun v29 _=>3 - (intOf v29).toNat)
 case atStart=>exact ⟨0,by omega,rfl,_,_,_,HJ0.out,.inl ⟨rfl,rfl,rfl⟩⟩
 case round=>
  obtain ⟨s,hs3,rfl,B,es,u,hj,hst⟩:=hrel;rcases hst with ⟨rfl,rfl,rfl⟩|⟨rfl,rfl,rfl,hall⟩|⟨rfl,rfl,rfl,hall,hnm⟩|⟨rfl,rfl,rfl,hlined⟩
  ·have HJ:=Hd hj;have f0:wr.cell? ⟨FB,0,none⟩=some (.func (.func 43) #[] #[]):=hj.fb.cell 0 rfl;clear hj HJ0;go_wp2;obtain ⟨wo,rfl⟩:∃ wo,wo=wr:=⟨_,rfl⟩
   clear f0
   go_loopw [35] (fun v35 wr=>∃ k:Nat,k<=n/\v35=.int .i64 k/\Below wo.heap.size wo wr/\∀ j d,j<k->cs[j]? = some d->d.e=0) (fun v35 _=>n - (intOf v35).toNat)
   case atStart=>exact ⟨0,Nat.zero_le _,rfl,Below.refl _ _,fun j d h _=>absurd h (Nat.not_lt_zero _)⟩
   case round=>
    obtain ⟨k,hk,rfl,hbw,hok⟩:=hrel;have HOK:=Hd hok;have HWO:=Hd hbw;have HBW:=Hd (HJ.out.bel.trans (hbw.mono HJ.out.bel.size));clear hok hbw;by_cases hlt:k<n
    ·
     obtain ⟨x,hx⟩:∃ x,cs[k]? = some x:=⟨_,List.getElem?_eq_getElem (by rw [←HN.out];exact hlt)⟩
     have hxm:=List.mem_of_getElem? hx;obtain ⟨b,o,v,rfl,hv,_,hcl⟩:=Src.elem (ClsR.st.below HS.out HBW.out) k x hx;obtain ⟨_,_,_,rfl,⟨lo,lc,rfl⟩,⟨fo,fc,rfl⟩,⟨mo,mc,rfl⟩⟩:=ZbM hv;have d0:wr.cell? ⟨b,o+k * 8,none⟩=some (.string (S x.name)):=hcl 0 _ rfl;have d1:wr.cell? ⟨b,o+k * 8+1,none⟩=some (.string (S x.sup)):=hcl 1 _ rfl;have d2:wr.cell? ⟨b,o+k * 8+2,none⟩=some (.slice lo x.like.length lc):=hcl 2 _ rfl;have d3:wr.cell? ⟨b,o+k * 8+3,none⟩=some (.bool x.itf):=hcl 3 _ rfl;have d4:wr.cell? ⟨b,o+k * 8+4,none⟩=some (.bool x.abs):=hcl 4 _ rfl;have d5:wr.cell? ⟨b,o+k * 8+5,none⟩=some (.bool x.fin):=hcl 5 _ rfl;have d6:wr.cell? ⟨b,o+k * 8+6,none⟩=some (.slice fo x.flds.length fc):=hcl 6 _ rfl;have d7:wr.cell? ⟨b,o+k * 8+7,none⟩=some (.slice mo x.mths.length mc):=hcl 7 _ rfl;have hk0:(0:Int)<=(k:Int):=by omega
     have hkn:(k:Int)<(n:Int):=by omega
     have HV:=Hd hv;have HX:=Hd hx;have HXM:=Hd hxm;have hI:Below wr.heap.size wr (wr.alloc (.cells #[.string (S x.name),.string (S x.sup),.slice lo x.like.length lc,.bool x.itf,.bool x.abs,.bool x.fin,.slice fo x.flds.length fc,.slice mo x.mths.length mc] 87))/\Box (wr.alloc (.cells #[.string (S x.name),.string (S x.sup),.slice lo x.like.length lc,.bool x.itf,.bool x.abs,.bool x.fin,.slice fo x.flds.length fc,.slice mo x.mths.length mc] 87)) wr.heap.size #[.string (S x.name),.string (S x.sup),.slice lo x.like.length lc,.bool x.itf,.bool x.abs,.bool x.fin,.slice fo x.flds.length fc,.slice mo x.mths.length mc] 87:=⟨Zaa (Below.refl _ _) _,Box.new wr _ _⟩;clear hv hcl hx hxm
     go_upto_region 9 with fail
     refine Zav (fun W=>Below wr.heap.size wr W/\Box W wr.heap.size #[.string (S x.name),.string (S x.sup),.slice lo x.like.length lc,.bool x.itf,.bool x.abs,.bool x.fin,.slice fo x.flds.length fc,.slice mo x.mths.length mc] 87) hI ?_;rintro W3 ⟨hb3,hx3⟩;have HB3:=Hd hb3;have r0:=hx3.cell 0 rfl;have r1:=hx3.cell 1 rfl;have r2:=hx3.cell 2 rfl;have r3:=hx3.cell 3 rfl;have r4:=hx3.cell 4 rfl;have r5:=hx3.cell 5 rfl;have r6:=hx3.cell 6 rfl;have r7:=hx3.cell 7 rfl;have HV3:=Hd (Zb3 HV.out hb3);have HBW3:=Hd (HBW.out.trans (hb3.mono HBW.out.size));clear hI hb3 hx3 d0 d1 d2 d3 d4 d5 d6 d7 HV
     go_wp2_with fail
     with_reducible refine (ZjQ x _ W3 HV3.out (HC.out.keep HBW3.out) (HFIT.out x HXM.out)).mono ?_
     rintro e4 w4 ⟨rfl,hb4⟩;have HB4:=Hd hb4;clear hb4;clear r0 r1 r2 r3 r4 r5 r6 r7;by_cases hz:x.e=0
     ·rw [hz];have HZ:=Hd hz;clear hz;go_wp2
      go_roundw
      case rel=>
       refine ⟨_,_,_,_,_,_,_,_,_,_,_,_,_,_,_,_,_,_,_,?_,rfl⟩;exact ⟨k+1,by omega,by go_num,HWO.out.trans ((HB3.out.trans (HB4.out.mono HB3.out.size)).mono HWO.out.size),fun j d hj hd=>by
        rcases Nat.lt_or_ge j k with h1|h1
        ·exact HOK.out j d h1 hd
        ·rw [show j=k by omega,HX.out] at hd;rw [←Option.some.inj hd];exact HZ.out⟩
      case measure=>simp [intOf];omega
     ·have HZ:=Hd hz;have hz1:¬ (x.e:Int)=0:=by omega
      have hzb:((x.e:Int) != 0)=true:=by rw [bne_iff_ne];omega
      clear hz;go_wp2
      go_ret3;exact .inl ⟨_,x.e,.inl ⟨k,x,rfl,HX.out,rfl,HZ.out,HOK.out⟩,rfl,HBW3.out.trans (HB4.out.mono HBW3.out.size)⟩
    ·obtain rfl:k=n:=by omega
     go_wp2
     go_roundw
     case rel=>
      refine ⟨1,by omega,by go_num,B,_,_,HJ.out.below HWO.out,.inr (.inl ⟨rfl,rfl,rfl,fun c hc=>?_⟩)⟩;obtain ⟨j,hj⟩:=List.getElem?_of_mem hc;exact HOK.out j c (by rw [HN.out];exact (List.getElem?_eq_some_iff.1 hj).1) hj
     case measure=>simp [intOf]
  ·have HJ:=Hd hj;have HALL:=Hd hall;have f0:wr.cell? ⟨FB,1,none⟩=some (.func (.func 44) #[.pointer (some ⟨T,0,none⟩)] #[]):=hj.fb.cell 1 rfl;clear hj HJ0 hall;go_wp2;obtain ⟨wo,rfl⟩:∃ wo,wo=wr:=⟨_,rfl⟩
   clear f0
   go_loopw [35] (fun v35 wr=>∃ (k:Nat) (B2:Nat->Nat),k<=n/\v35=.int .i64 k/\NewJ w T mb FB B2 (Zaw cs k) 8 wr/\∀ j d,j<k->cs[j]? = some d->Zad (Zaw cs j) d.name=none) (fun v35 _=>n - (intOf v35).toNat)
   case atStart=>exact ⟨0,B,Nat.zero_le _,rfl,by rw [Zd4];exact HJ.out,fun j d h _=>absurd h (Nat.not_lt_zero _)⟩
   case round=>
    obtain ⟨k,B2,hk,rfl,hj2,hok⟩:=hrel;have HOK:=Hd hok;have HJ2:=Hd hj2;have HBW:=Hd hj2.bel;clear hok hj2;by_cases hlt:k<n
    ·
     obtain ⟨x,hx⟩:∃ x,cs[k]? = some x:=⟨_,List.getElem?_eq_getElem (by rw [←HN.out];exact hlt)⟩
     have hxm:=List.mem_of_getElem? hx;obtain ⟨b,o,v,rfl,hv,_,hcl⟩:=Src.elem (ClsR.st.below HS.out HBW.out) k x hx;obtain ⟨_,_,_,rfl,⟨lo,lc,rfl⟩,⟨fo,fc,rfl⟩,⟨mo,mc,rfl⟩⟩:=ZbM hv;have d0:wr.cell? ⟨b,o+k * 8,none⟩=some (.string (S x.name)):=hcl 0 _ rfl;have d1:wr.cell? ⟨b,o+k * 8+1,none⟩=some (.string (S x.sup)):=hcl 1 _ rfl;have d2:wr.cell? ⟨b,o+k * 8+2,none⟩=some (.slice lo x.like.length lc):=hcl 2 _ rfl;have d3:wr.cell? ⟨b,o+k * 8+3,none⟩=some (.bool x.itf):=hcl 3 _ rfl;have d4:wr.cell? ⟨b,o+k * 8+4,none⟩=some (.bool x.abs):=hcl 4 _ rfl;have d5:wr.cell? ⟨b,o+k * 8+5,none⟩=some (.bool x.fin):=hcl 5 _ rfl;have d6:wr.cell? ⟨b,o+k * 8+6,none⟩=some (.slice fo x.flds.length fc):=hcl 6 _ rfl;have d7:wr.cell? ⟨b,o+k * 8+7,none⟩=some (.slice mo x.mths.length mc):=hcl 7 _ rfl;have hk0:(0:Int)<=(k:Int):=by omega
     have hkn:(k:Int)<(n:Int):=by omega
     have HV:=Hd hv;have HX:=Hd hx;have HXM:=Hd hxm;have hI:Below wr.heap.size wr (wr.alloc (.cells #[.string (S x.name),.string (S x.sup),.slice lo x.like.length lc,.bool x.itf,.bool x.abs,.bool x.fin,.slice fo x.flds.length fc,.slice mo x.mths.length mc] 87))/\Box (wr.alloc (.cells #[.string (S x.name),.string (S x.sup),.slice lo x.like.length lc,.bool x.itf,.bool x.abs,.bool x.fin,.slice fo x.flds.length fc,.slice mo x.mths.length mc] 87)) wr.heap.size #[.string (S x.name),.string (S x.sup),.slice lo x.like.length lc,.bool x.itf,.bool x.abs,.bool x.fin,.slice fo x.flds.length fc,.slice mo x.mths.length mc] 87:=⟨Zaa (Below.refl _ _) _,Box.new wr _ _⟩;clear hv hcl hx hxm
     go_upto_region 9 with fail
     refine Zav (fun W=>Below wr.heap.size wr W/\Box W wr.heap.size #[.string (S x.name),.string (S x.sup),.slice lo x.like.length lc,.bool x.itf,.bool x.abs,.bool x.fin,.slice fo x.flds.length fc,.slice mo x.mths.length mc] 87) hI ?_;rintro W3 ⟨hb3,hx3⟩;have HB3:=Hd hb3;have r0:=hx3.cell 0 rfl;have r1:=hx3.cell 1 rfl;have r2:=hx3.cell 2 rfl;have r3:=hx3.cell 3 rfl;have r4:=hx3.cell 4 rfl;have r5:=hx3.cell 5 rfl;have r6:=hx3.cell 6 rfl;have r7:=hx3.cell 7 rfl;have HV3:=Hd (Zb3 HV.out hb3);have HBW3:=Hd (HBW.out.trans (hb3.mono HBW.out.size));clear hI hb3 hx3 d0 d1 d2 d3 d4 d5 d6 d7 HV;have hgood:x.Good:=⟨HALL.out x HXM.out,HHELD.out x HXM.out⟩;have hel:(Zaw cs k).length=8+k:=Zha cs (by rw [←HN.out];omega);have hJ3:=HJ2.out.below HB3.out;have HJ3:=Hd hJ3;have HEN:=Hd (Zg9 x _ W3 hJ3.tb HBW3.out.size HV3.out hgood.small (by omega));have HEL:=Hd hel;clear hgood hJ3 hel
     go_wp2_with fail
     with_reducible refine HEN.out.mono ?_
     rintro e4 w4 ⟨hen1,hen2⟩;clear r0 r1 r2 r3 r4 r5 r6 r7;cases hp:Zad (Zaw cs k) x.name with
     | some j0=>
      obtain ⟨rfl,hb4⟩:=hen1 (by rw [hp];rfl);have HP:Hid ((Zad (Zaw cs k) x.name).isSome=true):=Hd (by rw [hp];rfl);have HB4:=Hd hb4;clear hen1 hen2 hb4 hp HEN;go_wp2
      go_ret3;exact .inl ⟨_,60,.inr ⟨HALL.out,.inl ⟨k,x,rfl,HX.out,rfl,HP.out,HOK.out⟩⟩,rfl,HBW3.out.trans (HB4.out.mono HBW3.out.size)⟩
     | none=>
      obtain ⟨rfl,ho4,b4,hb4,ht4⟩:=hen2 hp;have HP:=Hd hp;have hfl:=HJ3.out.fb.lt;have hj4:NewJ w T mb FB (addB B2 (8+k) b4) (Zaw cs (k+1)) 8 w4:=by
       rw [Zd3 HX.out,←HEL.out];refine ⟨ht4,HJ3.out.bel.trans (ho4.below HJ3.out.bel.size (fun q (e:q=mb)=>by have:=HJ3.out.tb.tM;omega)),HJ3.out.fb.keep ho4 (fun e=>HJ3.out.nM e.symm),fun i hi=>?_,HJ3.out.nM⟩;rw [List.length_append] at hi;by_cases e:i=(Zaw cs k).length
       ·rw [e,ZbJ];omega
       ·rw [Zgc (by simp at hi;omega)];exact HJ3.out.nB i (by simp at hi;omega)
      have HJ4:=Hd hj4;clear hen1 hen2 ho4 hb4 ht4 hp hfl hj4 HEN;go_wp2
      go_roundw
      case rel=>
       refine ⟨_,_,_,_,_,_,_,_,_,_,_,_,_,_,_,_,_,_,_,?_,rfl⟩;exact ⟨k+1,_,by omega,by go_num,HJ4.out,fun j d hj hd=>by
        rcases Nat.lt_or_ge j k with h1|h1
        ·exact HOK.out j d h1 hd
        ·rw [show j=k by omega,HX.out] at hd;rw [←Option.some.inj hd,show j=k by omega];exact HP.out⟩
      case measure=>simp [intOf];omega
    ·obtain rfl:k=n:=by omega
     go_wp2
     go_roundw
     case rel=>
      refine ⟨2,by omega,by go_num,B2,_,_,HJ2.out,.inr (.inr (.inl ⟨rfl,by rw [HN.out,ZcP],rfl,HALL.out,fun j c hj=>?_⟩))⟩;exact HOK.out j c (by rw [HN.out];exact (List.getElem?_eq_some_iff.1 hj).1) hj
     case measure=>simp [intOf]
  ·have HJ:=Hd hj;have HALL:=Hd hall;have HNM:=Hd hnm;have f0:wr.cell? ⟨FB,2,none⟩=some (.func (.func 45) #[.pointer (some ⟨T,0,none⟩)] #[]):=hj.fb.cell 2 rfl;clear hj HJ0 hall hnm;go_wp2;obtain ⟨wo,rfl⟩:∃ wo,wo=wr:=⟨_,rfl⟩
   clear f0
   go_loopw [35] (fun v35 wr=>∃ k:Nat,k<=n/\v35=.int .i64 k/\NewJ w T mb FB B (Za8 cs k) (8+k) wr/\∀ j d,j<k->cs[j]? = some d->(upE (Zas cs) d.sup).isSome=true/\ZaF (Zas cs) d.like=true) (fun v35 _=>n - (intOf v35).toNat)
   case atStart=>exact ⟨0,Nat.zero_le _,rfl,by rw [ZhC];exact HJ.out,fun j d h _=>absurd h (Nat.not_lt_zero _)⟩
   case round=>
    obtain ⟨k,hk,rfl,hj2,hok⟩:=hrel;have HOK:=Hd hok;have HJ2:=Hd hj2;have HBW:=Hd hj2.bel;clear hok hj2;by_cases hlt:k<n
    ·
     obtain ⟨x,hx⟩:∃ x,cs[k]? = some x:=⟨_,List.getElem?_eq_getElem (by rw [←HN.out];exact hlt)⟩
     have hxm:=List.mem_of_getElem? hx;obtain ⟨b,o,v,rfl,hv,_,hcl⟩:=Src.elem (ClsR.st.below HS.out HBW.out) k x hx;obtain ⟨_,_,_,rfl,⟨lo,lc,rfl⟩,⟨fo,fc,rfl⟩,⟨mo,mc,rfl⟩⟩:=ZbM hv;have d0:wr.cell? ⟨b,o+k * 8,none⟩=some (.string (S x.name)):=hcl 0 _ rfl;have d1:wr.cell? ⟨b,o+k * 8+1,none⟩=some (.string (S x.sup)):=hcl 1 _ rfl;have d2:wr.cell? ⟨b,o+k * 8+2,none⟩=some (.slice lo x.like.length lc):=hcl 2 _ rfl;have d3:wr.cell? ⟨b,o+k * 8+3,none⟩=some (.bool x.itf):=hcl 3 _ rfl;have d4:wr.cell? ⟨b,o+k * 8+4,none⟩=some (.bool x.abs):=hcl 4 _ rfl;have d5:wr.cell? ⟨b,o+k * 8+5,none⟩=some (.bool x.fin):=hcl 5 _ rfl;have d6:wr.cell? ⟨b,o+k * 8+6,none⟩=some (.slice fo x.flds.length fc):=hcl 6 _ rfl;have d7:wr.cell? ⟨b,o+k * 8+7,none⟩=some (.slice mo x.mths.length mc):=hcl 7 _ rfl;have hk0:(0:Int)<=(k:Int):=by omega
     have hkn:(k:Int)<(n:Int):=by omega
     have HV:=Hd hv;have HX:=Hd hx;have HXM:=Hd hxm;have hI:Below wr.heap.size wr (wr.alloc (.cells #[.string (S x.name),.string (S x.sup),.slice lo x.like.length lc,.bool x.itf,.bool x.abs,.bool x.fin,.slice fo x.flds.length fc,.slice mo x.mths.length mc] 87))/\Box (wr.alloc (.cells #[.string (S x.name),.string (S x.sup),.slice lo x.like.length lc,.bool x.itf,.bool x.abs,.bool x.fin,.slice fo x.flds.length fc,.slice mo x.mths.length mc] 87)) wr.heap.size #[.string (S x.name),.string (S x.sup),.slice lo x.like.length lc,.bool x.itf,.bool x.abs,.bool x.fin,.slice fo x.flds.length fc,.slice mo x.mths.length mc] 87:=⟨Zaa (Below.refl _ _) _,Box.new wr _ _⟩;clear hv hcl hx hxm
     go_upto_region 9 with fail
     refine Zav (fun W=>Below wr.heap.size wr W/\Box W wr.heap.size #[.string (S x.name),.string (S x.sup),.slice lo x.like.length lc,.bool x.itf,.bool x.abs,.bool x.fin,.slice fo x.flds.length fc,.slice mo x.mths.length mc] 87) hI ?_;rintro W3 ⟨hb3,hx3⟩;have HB3:=Hd hb3;have r0:=hx3.cell 0 rfl;have r1:=hx3.cell 1 rfl;have r2:=hx3.cell 2 rfl;have r3:=hx3.cell 3 rfl;have r4:=hx3.cell 4 rfl;have r5:=hx3.cell 5 rfl;have r6:=hx3.cell 6 rfl;have r7:=hx3.cell 7 rfl;have HV3:=Hd (Zb3 HV.out hb3);have HBW3:=Hd (HBW.out.trans (hb3.mono HBW.out.size));clear hI hb3 hx3 d0 d1 d2 d3 d4 d5 d6 d7 HV;have hgood:x.Good:=⟨HALL.out x HXM.out,HHELD.out x HXM.out⟩;have hel:(Za8 cs k).length=8+cs.length:=ZdT cs (by rw [←HN.out];omega);have hcls:=Zfc cs k;have hJ3:=HJ2.out.below HB3.out;have HJ3:=Hd hJ3;have hget:=ZiJ HX.out;have huq:Uniq (Za8 cs k):=Uniq.cls hcls (by rw [←ZcP];exact Zck HNM.out _ (Nat.le_refl _));have hil:8+k<(Za8 cs k).length:=by rw [hel,←HN.out];omega
     have HLK:=Hd (Zjm x _ W3 hJ3.tb HBW3.out.size hget (huq _ _ hget) HV3.out (fun q hq e=>by have h1:=hJ3.tb.tB _ hil;have h2:q<w.heap.size:=hq;omega) hgood.small (by rw [hel,←HN.out];omega));have HIL:=Hd hil;have HCLS:=Hd hcls;clear hgood hJ3 hel hcls hget huq hil
     go_wp2_with fail
     with_reducible refine HLK.out.mono ?_
     rintro e4 w4 ⟨hl1,hl2,hl3⟩;clear r0 r1 r2 r3 r4 r5 r6 r7;rw [ZnN HCLS.out,Ze8 HCLS.out] at hl2;rw [ZnN HCLS.out] at hl1 hl3;rw [Ze8 HCLS.out,Zkk HCLS.out] at hl3;have hBb:∀ w',Only (fun q=>q=B (8+k)) W3 w'->Below w.heap.size w w':=fun w' ho=>HBW3.out.trans (ho.below HBW3.out.size (fun q (e:q=B (8+k))=>by have:=HJ3.out.tb.tB _ HIL.out;omega))
     have HBB:=Hd hBb;clear hBb HLK;cases hu:upE (Zas cs) x.sup with
     | none=>
      obtain ⟨rfl,hb4⟩:=hl1 hu;have HU:=Hd hu;have HB4:=Hd hb4;clear hl1 hl2 hl3 hb4 hu;go_wp2
      go_ret3;exact .inl ⟨_,61,.inr ⟨HALL.out,.inr ⟨HNM.out,.inl ⟨k,x,rfl,HX.out,.inl ⟨rfl,HU.out⟩,HOK.out⟩⟩⟩,rfl,HBW3.out.trans (HB4.out.mono HBW3.out.size)⟩
     | some j0=>
      cases hlk:ZaF (Zas cs) x.like with
      | false=>
       obtain ⟨rfl,ho4⟩:=hl2 (by rw [hu];rfl) hlk;have HU:Hid ((upE (Zas cs) x.sup).isSome=true):=Hd (by rw [hu];rfl);have HLQ:=Hd hlk;have HO4:=Hd ho4;clear hl1 hl2 hl3 ho4 hu hlk;go_wp2
       go_ret3;exact .inl ⟨_,62,.inr ⟨HALL.out,.inr ⟨HNM.out,.inl ⟨k,x,rfl,HX.out,.inr ⟨rfl,HU.out,HLQ.out⟩,HOK.out⟩⟩⟩,rfl,HBB.out _ HO4.out⟩
      | true=>
       obtain ⟨rfl,ho4,ht4⟩:=hl3 j0 hu hlk;have hlo:(⟨x,some j0,Zbr (Zas cs) x.like⟩:Ent)=ZcX cs x:=by unfold ZcX;rw [hu]
       rw [hlo,ZhB HX.out] at ht4;have HU:Hid ((upE (Zas cs) x.sup).isSome=true/\ZaF (Zas cs) x.like=true):=Hd ⟨by rw [hu];rfl,hlk⟩;have HJ4:Hid (NewJ w T mb FB B (Za8 cs (k+1)) (8+(k+1)) w4):=Hd ⟨ht4,HBB.out _ ho4,HJ3.out.fb.keep ho4 (fun e=>HJ3.out.nB _ HIL.out e.symm),fun i hi=>HJ3.out.nB i (by rw [ZdT cs (by rw [←HN.out];omega)];rw [ZdT cs (by rw [←HN.out];omega)] at hi;exact hi),HJ3.out.nM⟩;clear hl1 hl2 hl3 ho4 ht4 hlo hu hlk;go_wp2
       go_roundw
       case rel=>
        refine ⟨_,_,_,_,_,_,_,_,_,_,_,_,_,_,_,_,_,_,_,?_,rfl⟩;exact ⟨k+1,by omega,by go_num,HJ4.out,fun j d hj hd=>by
         rcases Nat.lt_or_ge j k with h1|h1
         ·exact HOK.out j d h1 hd
         ·rw [show j=k by omega,HX.out] at hd;rw [←Option.some.inj hd];exact HU.out⟩
       case measure=>simp [intOf];omega
    ·obtain rfl:k=n:=by omega
     have hfl:∀ c ∈ cs,(upE (Zas cs) c.sup).isSome=true/\ZaF (Zas cs) c.like=true:=fun c hc=>by
      obtain ⟨j,hj⟩:=List.getElem?_of_mem hc;exact HOK.out j c (by rw [HN.out];exact (List.getElem?_eq_some_iff.1 hj).1) hj
     have HFL:=Hd hfl;clear hfl;go_wp2
     go_roundw
     case rel=>
      refine ⟨3,by omega,by go_num,B,_,_,HJ2.out,.inr (.inr (.inr ⟨rfl,by rw [HN.out,Zfb],by rw [ZaR,HN.out],?_⟩))⟩;exact ⟨by rw [←HN.out];exact hlen,fun c hc=>⟨HALL.out c hc,HHELD.out c hc⟩,HNM.out,fun c hc=>(HFL.out c hc).1,fun c hc=>(HFL.out c hc).2⟩
     case measure=>simp [intOf]
  ·have HL:=Hd hlined;have HB:=Hd hj.bel;have HTB:=Hd hj.tb;obtain ⟨m,hm⟩:∃ m,m=(newT cs).length:=⟨_,rfl⟩
   have hmb:(newT cs).length<=1048576:=by rw [ZaR];have:=hlined.len;omega
   have HIN:=Hd (ZiE hj.tb.tab hlined.uniq hmb wr (Below.refl _ _));have hlk:∀ (i:Nat) (e:Ent),(newT cs)[i]? = some e->e.lk.length<=9223372036854775807:=fun i e he=>by have:=(hlined.small i e he).2.2.2;omega
   have HLP:Hid (∀ X g,Below wr.heap.size wr X->MRow X g (newT cs).length 94 ((List.range (newT cs).length).map (entV B))->Calls Tryz.prog 48 #[.slice (some ⟨g,0,none⟩) (newT cs).length (newT cs).length] X (Zpr (newT cs) X)):=Hd (fun X g hX hr=>Zkn X (HTB.out.below hX).tab hmb hlk hlined.par g hr);have HFP:Hid (∀ X g,Below wr.heap.size wr X->MRow X g (newT cs).length 94 ((List.range (newT cs).length).map (entV B))->Calls Tryz.prog 49 #[.slice (some ⟨g,0,none⟩) (newT cs).length (newT cs).length] X (Zpe B (newT cs) X)):=Hd (fun X g hX hr=>Zma X (HTB.out.below hX).tab hmb hlk hlined.par g hr);have hfl:=ZdC hmb hlined.par hlined.self;have HFL:=Hd hfl;have HM:=Hd hm;have HMB:=Hd hmb;rw [←hm] at HIN HLP HFP hmb;clear hj HJ0 hlined hlk hfl hm
   go_wp2_with fail
   with_reducible refine HIN.out.mono ?_
   rintro e2 w2 ⟨g,rfl,_,hrow,hb2⟩;have HROW:=Hd hrow;have HB2:=Hd hb2;have HC2:=Hd (HLP.out w2 g hb2 hrow);clear hrow hb2 HIN HLP
   go_wp2_with fail
   with_reducible refine HC2.out.mono ?_
   rintro e3 w3 ⟨gl,rfl,hrl,_,hb3⟩;rw [←HM.out] at hrl ⊢;have hll:(ZaG (newT cs) m).loop.length=m:=by have:=HFL.out.1;rwa [←HM.out] at this
   have HIX:Hid (Calls Tryz.prog 47 #[.slice (some ⟨gl,0,none⟩) m m,.bool true] w3 (Zpg (ZaG (newT cs) m).loop w3)):=Hd (by
    have q:=Zmk (ZaG (newT cs) m).loop w3 gl (by rw [hll];exact hrl) (by rw [hll];exact hmb);rw [hll] at q;exact q)
   have HB3:=Hd (HB2.out.trans (hb3.mono HB2.out.size));have HB23:=Hd hb3;obtain ⟨z,hz⟩:∃ z,z=firstT (ZaG (newT cs) m).loop:=⟨_,rfl⟩
   have hzb:-1<=z/\z<=1048576:=by
    rw [hz];unfold firstT;split
    ·rename_i h
     rw [hll] at h;omega
    ·omega
   have HZ:=Hd hz;clear hrl hll hb3 HC2 hz
   go_wp2_with fail
   with_reducible refine HIX.out.mono ?_
   rintro e4 w4 ⟨rfl,rfl⟩;rw [←HZ.out];obtain ⟨hz1,hz2⟩:=hzb;clear HIX;by_cases hz0:0<=z
   ·go_wp2
    go_ret3;refine .inl ⟨_,63,.inr ⟨fun c hc=>(HL.out.good c hc).1,.inr ⟨HL.out.names,.inr ⟨HL.out,.inl ⟨?_,?_,rfl⟩⟩⟩⟩,rfl,HB.out.trans (HB3.out.mono HB.out.size)⟩
    ·rw [←HM.out,←HZ.out];exact hz0
    ·rw [←HM.out,←HZ.out]
   ·have hz3:¬ (0<=z):=hz0;have hzf:decide (0<=z)=false:=decide_eq_false hz0;have HCF:=Hd (HFP.out w4 g HB3.out (HROW.out.keep (Only.ofBelow (S:=fun _=>False) HB23.out) id));clear HFP hz0
    go_wp2_with fail
    with_reducible refine HCF.out.mono ?_
    rintro e5 w5 ⟨ov,rfl,hso,hb5⟩;obtain ⟨oo,oc,rfl⟩:=hso.shape;rw [←HM.out] at hso ⊢;have hac:Acyc (newT cs):=Zem HFL.out (by rw [←HM.out,←HZ.out];omega);have hsh:=HL.out.shape hac;have hml:∀ i,(Zaq (newT cs) i).length<=32:=fun i=>by
     unfold Zaq;cases he:(newT cs)[i]? with
     | none=>simp
     | some e=>exact (HL.out.small i e he).2.2.1
    have HCK:Hid (∀ x X,x<m->Below wr.heap.size wr X->Calls Tryz.prog 50 #[.pointer (some ⟨T,0,none⟩),entV B x] X (fun e w'=>e=.returned (.int .i64 (chkT (newT cs) x:Nat))/\Below X.heap.size X w')):=Hd (fun x X hx hX=>ZpE HTB.out.tab hsh HL.out.par hml HL.out.goodT (fitT HFIT.out) x (by rw [←HM.out];exact hx) X hX);have HOB:Hid (∀ y ∈ Zb1 (newT cs) m,y<m):=Hd (by rw [HM.out];exact Zng HL.out.par);have hol:(Zb1 (newT cs) m).length<=m:=by rw [HM.out];exact Zk3 HL.out.par
    have HSO:=Hd hso;have HB5:=Hd (HB3.out.trans (hb5.mono HB3.out.size));obtain ⟨wo,rfl⟩:∃ wo,wo=wr:=⟨_,rfl⟩
    obtain ⟨O,hO⟩:∃ O,O=Zb1 (newT cs) m:=⟨_,rfl⟩
    rw [←hO] at HSO HOB hol ⊢;obtain ⟨q,hq⟩:∃ q,q=O.length:=⟨_,rfl⟩
    rw [←hq] at HSO hol ⊢;have HQ:=Hd hq;have HO:=Hd hO;clear HCF hso hb5 hac hsh hml hO hq;go_wp2
    go_loopw [62] (fun v62 wr=>∃ k:Nat,k<=q/\v62=.int .i64 k/\Below w5.heap.size w5 wr/\∀ j y,j<k->O[j]? = some y->chkT (newT cs) y=0) (fun v62 _=>q - (intOf v62).toNat)
    case atStart=>exact ⟨0,Nat.zero_le _,rfl,Below.refl _ _,fun j y h _=>absurd h (Nat.not_lt_zero _)⟩
    case round=>
     obtain ⟨k,hk,rfl,hbw,hok⟩:=hrel;have HOK:=Hd hok;have HWR:=Hd hbw;have HBW:=Hd (HB5.out.trans (hbw.mono HB5.out.size));clear hok hbw;by_cases hlt:k<q
     ·obtain ⟨x,hx⟩:∃ x,O[k]? = some x:=⟨_,List.getElem?_eq_getElem (by rw [←HQ.out];exact hlt)⟩
      have hxm:=HOB.out x (List.mem_of_getElem? hx);obtain ⟨b,o,v,rfl,hv,_,hcl⟩:=Src.elem ((EntP.st B).below HSO.out HWR.out) k x hx;obtain rfl:=hv;have d0:wr.cell? ⟨b,o+k,none⟩=some (entV B x):=by have q:=hcl 0 _ rfl;rw [Nat.mul_one] at q;exact q
      have hk0:(0:Int)<=(k:Int):=by omega
      have hkn:(k:Int)<(q:Int):=by omega
      have HX:=Hd hx;have HXM:=Hd hxm;have HCALL:=Hd (HCK.out x wr hxm HBW.out);clear hcl hx
      go_wp2_with fail
      with_reducible refine HCALL.out.mono ?_
      rintro e6 w6 ⟨rfl,hb6⟩;have HB6:=Hd hb6;have HBW6:=Hd (HBW.out.trans (hb6.mono HBW.out.size));clear hb6 d0 HCALL;by_cases hc:chkT (newT cs) x=0
      ·rw [hc];have HCH:=Hd hc;clear hc;go_wp2
       go_roundw
       case rel=>exact ⟨k+1,by omega,by go_num,HWR.out.trans (HB6.out.mono HWR.out.size),fun j y hj hy=>by
        rcases Nat.lt_or_ge j k with h1|h1
        ·exact HOK.out j y h1 hy
        ·rw [show j=k by omega,HX.out] at hy;rw [←Option.some.inj hy];exact HCH.out⟩
       case measure=>simp [intOf];omega
      ·have HCH:=Hd hc;have hc1:¬ ((chkT (newT cs) x:Nat):Int)=0:=by omega
       have hcb:(((chkT (newT cs) x:Nat):Int) != 0)=true:=by rw [bne_iff_ne];omega
       obtain ⟨ex,hex⟩:∃ ex,(newT cs)[x]? = some ex:=⟨_,List.getElem?_eq_getElem (by rw [←HM.out];exact hxm)⟩
       obtain ⟨_,_,_,_,hbx,_⟩:=(HTB.out.below HBW6.out).tab.ent x ex hex;have c0:w6.cell? ⟨B x,0,none⟩=some (.int .i64 x):=hbx.cell 0 rfl;have hx1:(0:Int)<=(x:Int):=by omega
       have hx2:(x:Int)<=1048576:=by omega
       have HSB:Hid (∀ X,Below w6.heap.size w6 X->X.cell? ⟨B x,0,none⟩=some (.int .i64 x)):=Hd (fun X hX=>(Only.ofBelow (S:=fun _=>False) hX).cell c0 id);have h0:Below w6.heap.size w6 w6:=Below.refl _ _;clear hc hex hbx
       go_upto_region 23 with fail
       first
       | (go_region_held (fun X=>X.cell? ⟨B x,0,none⟩=some (.int .i64 x)) ((refine HSB.out _ ?_;(repeat (first|(with_reducible exact Below.refl _ _)|(with_reducible assumption)|(with_reducible refine Zab ?_))))) (fail))
       | fail
       have HWP:Hid (IntKind.i64.wrap ((x:Int) - 8)=(x:Int) - 8):=Hd (by unfold IntKind.wrap;simp [IntKind.bits,IntKind.signed];omega);clear c0 h0 HSB;go_wp2
       go_ret3;refine .inl ⟨(x:Int) - 8,chkT (newT cs) x,.inr ⟨fun c hc=>(HL.out.good c hc).1,.inr ⟨HL.out.names,.inr ⟨HL.out,.inr ⟨?_,k,x,?_,rfl,rfl,HCH.out,?_⟩⟩⟩⟩,by (show Ending.returned (.tuple #[.pointer none,.int .i64 (IntKind.i64.wrap ((x:Int) - 8)),.int .i64 ((chkT (newT cs) x:Nat):Int)])=_;rw [HWP.out]),HB.out.trans ((Zab HBW6.out).mono HB.out.size)⟩
       ·rw [←HM.out,←HZ.out];omega
       ·rw [←HM.out,←HO.out];exact HX.out
       ·rw [←HM.out,←HO.out];exact HOK.out
     ·obtain rfl:k=q:=by omega
      go_wp2
      go_ret3;refine .inr ⟨⟨HL.out,by rw [←HM.out,←HZ.out];omega,fun y hy=>?_⟩,T,mb,B,rfl,HTB.out.below HBW.out,HB.out.trans (HBW.out.mono HB.out.size)⟩;rw [←HM.out,←HO.out] at hy;obtain ⟨j,hj⟩:=List.getElem?_of_mem hy;exact HOK.out j y (by rw [HQ.out];exact (List.getElem?_eq_some_iff.1 hj).1) hj
