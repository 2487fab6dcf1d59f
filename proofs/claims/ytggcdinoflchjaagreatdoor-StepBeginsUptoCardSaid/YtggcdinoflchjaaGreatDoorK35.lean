/- laws -/
import Derived.Test.YtggcdinoflchjaaGreatDoorK34
import Derived.Shelf.Strings.BuilderK
import Derived.Shelf.Strings.Builder1
import Derived.Shelf.LaysM
set_option maxRecDepth 100000
set_option maxHeartbeats 16000000
namespace Go.Proofs.YtggcdinoflchjaaGreatDoor
open Go.RowKit
def NewBad (cs:List Cls) (i:Int) (z:Nat):Prop:=
 (∃ (k:Nat) (c:Cls),i=(k:Nat)/\cs[k]? = some c/\z=c.e/\c.e ≠ 0/\∀ j d,j<k->cs[j]? = some d->d.e=0)\/
 (∀ c ∈ cs,c.e=0)/\((∃ (k:Nat) (c:Cls),i=(k:Nat)/\cs[k]? = some c/\z=60/\(Zad (Zaw cs k) c.name).isSome=true/\∀ j d,j<k->cs[j]? = some d->Zad (Zaw cs j) d.name=none)\/
 (∀ k c,cs[k]? = some c->Zad (Zaw cs k) c.name=none)/\((∃ (k:Nat) (c:Cls),i=(k:Nat)/\cs[k]? = some c/\(z=61/\upE (Zat cs) c.sup=none\/z=62/\(upE (Zat cs) c.sup).isSome=true/\ZaH (Zat cs) c.like=false)/\
   ∀ j d,j<k->cs[j]? = some d->(upE (Zat cs) d.sup).isSome=true/\ZaH (Zat cs) d.like=true)\/
 Lined cs/\((0<=firstT (ZaI (newT cs) (newT cs).length).loop/\i=firstT (ZaI (newT cs) (newT cs).length).loop - 8/\z=63)\/
  (firstT (ZaI (newT cs) (newT cs).length).loop<0/\∃ (k x:Nat),(Zb1 (newT cs) (newT cs).length)[k]? = some x/\i=(x:Int) - 8/\z=chkT (newT cs) x/\chkT (newT cs) x ≠ 0/\∀ j y,j<k->(Zb1 (newT cs) (newT cs).length)[j]? = some y->chkT (newT cs) y=0))))
structure NewOk (cs:List Cls):Prop where
 lined:Lined cs
 loops:firstT (ZaI (newT cs) (newT cs).length).loop<0
 checks:∀ x ∈ Zb1 (newT cs) (newT cs).length,chkT (newT cs) x=0
def NewG (cs:List Cls) (w:World) (e:Ending) (w':World):Prop:=
 (∃ i z,NewBad cs i z/\e=.returned (.tuple #[.pointer none,.int .i64 i,.int .i64 (z:Nat)])/\Below w.heap.size w w')\/
 (NewOk cs/\∃ T mb B,e=.returned (.tuple #[.pointer (some ⟨T,0,none⟩),.int .i64 0,.int .i64 0])/\Tb w.heap.size w' T mb B (newT cs) (newT cs).length/\Below w.heap.size w w')
theorem Zkb {l:List Bool} (h:firstT l<0):∀ b ∈ l,b=false:=fun b hb=>by
 unfold firstT at h;split at h
 ·omega
 ·rename_i hn
  cases hb2:b with
  | false=>rfl
  | true=>
   exfalso
   subst hb2;exact hn (List.findIdx_lt_length_of_exists ⟨true,hb,rfl⟩)
theorem Zep {es:List Ent} (hf:(ZaI es es.length).loop.length=es.length/\∀ x,x<es.length->((ZaI es es.length).loop.getD x false=true↔Over es x x)) (h:firstT (ZaI es es.length).loop<0):Acyc es:=fun x ho=>by
 have hx:x<es.length:=by
  obtain ⟨d,hd,_⟩:=ho;rcases YaB x es.length with h1|h1
  ·exact h1
  ·unfold parE at hd;rw [YaN h1] at hd;cases hd
 have h1:=(hf.2 x hx).2 ho;rw [Yam,Yaa (by rw [hf.1];exact hx)] at h1;have h2:=Zkb h _ (Ycc (l:=(ZaI es es.length).loop) (n:=x) (by rw [hf.1];exact hx));rw [h2] at h1;cases h1
theorem Zf8 {es:List Ent} (hp:Zc3 es):∀ (f:Nat) (s:List Bool × List Nat) (c:Nat),c<es.length->∀ x ∈ (Zas es f s c).2,x ∈ s.2\/x<es.length
 | 0,s,c,_,x,hx=>.inl hx
 | f+1,s,c,hc,x,hx=>by
  have ih:=Zf8 hp f;have fold:∀ (l:List Nat) (s:List Bool × List Nat),(∀ d ∈ l,d<es.length)->∀ x ∈ (l.foldl (Zas es f) s).2,x ∈ s.2\/x<es.length:=by
   intro l;induction l with
   | nil=>intro s _ x hx;exact .inl hx
   | cons d l ihl=>
    intro s hd x hx;rw [YaK] at hx;rcases ihl _ (fun y hy=>hd y (Yap d hy)) x hx with h|h
    ·exact ih s d (hd d Yal) x h
    ·exact .inr h
  unfold Zas at hx;split at hx
  ·exact .inl hx
  ·dsimp only at hx;rcases Yao.1 hx with h|h
   ·exact fold (parE es c) (s.1.set c true,s.2) (hp c) x h
   ·rw [YaA.1 h];exact .inr hc
theorem Zni {es:List Ent} (hp:Zc3 es):∀ y ∈ Zb1 es es.length,y<es.length:=fun y hy=>by
 have fold:∀ (l:List Nat) (s:List Bool × List Nat),(∀ d ∈ l,d<es.length)->∀ x ∈ (l.foldl (Zas es es.length) s).2,x ∈ s.2\/x<es.length:=by
  intro l;induction l with
  | nil=>intro s _ x hx;exact .inl hx
  | cons d l ihl=>
   intro s hd x hx;rw [YaK] at hx;rcases ihl _ (fun y hy=>hd y (Yap d hy)) x hx with h|h
   ·exact Zf8 hp _ s d (hd d Yal) x h
   ·exact .inr h
 rcases fold (List.range es.length) _ (fun d hd=>YbL.1 hd) y hy with h|h
 ·cases h
 ·exact h
theorem Zk6 {es:List Ent} (hp:Zc3 es):(Zb1 es es.length).length<=es.length:=by
 have h1:=ZdC hp es.length (List.range es.length) (List.replicate es.length false,[]) (by simp) (fun d hd=>YbL.1 hd);have h2:=ZdF (List.replicate es.length false);rw [Ybz] at h2;have h3:(([]:List Nat)).length=0:=rfl;dsimp only at h1;unfold Zb1;omega
theorem Lined.goodT {cs:List Cls} (h:Lined cs):Zgb (newT cs):=fun i m hm=>by
 unfold Zar at hm;cases he:(newT cs)[i]? with
 | none=>rw [he] at hm;cases hm
 | some e=>
  rw [he] at hm;rcases Zbb he with ⟨h1,h2⟩|⟨h1,x,h2,rfl⟩
  ·have h3:startL.all (fun e=>e.cls.mths.isEmpty)=true:=by decide
   have h4:=YaE.1 h3 e (Yaf h2);rw [List.isEmpty_iff] at h4;dsimp only at hm;rw [h4] at hm;cases hm
  ·exact (h.good x (Yaf h2)).mths m hm
theorem fitT {cs:List Cls} (hf:∀ c ∈ cs,c.Fit) (i:Nat):(ZeV (newT cs) i).Fit:=by
 have hs:∀ c:Cls,c.name.length<=32->c.sup.length<=32->c.like=[]->c.mths=[]->c.flds.length<=32->(∀ f ∈ c.flds,f.name.length<=32/\f.kind.length<=32)->c.Fit:=fun c h1 h2 h3 h4 h5 h6=>by
  refine ⟨?_,?_,fun x hx=>?_,fun f hf=>⟨?_,?_⟩,fun m hm=>?_,?_,?_,?_⟩
  ·unfold ZaA;omega
  ·unfold ZaA;omega
  ·rw [h3] at hx;cases hx
  ·have:=(h6 f hf).1;unfold ZaA;omega
  ·have:=(h6 f hf).2;unfold ZaA;omega
  ·rw [h4] at hm;cases hm
  ·rw [h3];simp
  ·omega
  ·rw [h4];simp
 unfold ZeV;cases he:(newT cs)[i]? with
 | none=>exact hs objC (by decide) (by decide) rfl rfl (by decide) (by decide)
 | some e=>
  rcases Zbb he with ⟨h1,h2⟩|⟨h1,x,h2,rfl⟩
  ·have h3:startL.all (fun e=>decide (e.cls.name.length<=32/\e.cls.sup.length<=32/\e.cls.like=[]/\e.cls.flds.length<=32/\e.cls.flds.all (fun f=>decide (f.name.length<=32/\f.kind.length<=32))=true) && e.cls.mths.isEmpty)=true:=by decide
   have h4:=YaE.1 h3 e (Yaf h2);rw [Yar,List.isEmpty_iff] at h4;obtain ⟨h5,h6⟩:=h4;obtain ⟨a1,a2,a3,a4,a5⟩:=of_decide_eq_true h5;exact hs e.cls a1 a2 a3 h6 a4 (fun f hf=>of_decide_eq_true (YaE.1 a5 f hf))
  ·exact hf x (Yaf h2)
structure NewJ (w:World) (T mb FB:Nat) (B:Nat->Nat) (es:List Ent) (u:Nat) (wr:World):Prop where
 tb:Tb w.heap.size wr T mb B es u
 bel:Below w.heap.size w wr
 fb:Box wr FB #[.func (.func 43) #[] #[],.func (.func 44) #[.pointer (some ⟨T,0,none⟩)] #[],.func (.func 45) #[.pointer (some ⟨T,0,none⟩)] #[]] 82
 nB:∀ i,i<es.length->B i ≠ FB
 nM:mb ≠ FB
theorem NewJ.below {w:World} {T mb FB:Nat} {B:Nat->Nat} {es:List Ent} {u:Nat} {wr W:World} (h:NewJ w T mb FB B es u wr) (hb:Below wr.heap.size wr W):NewJ w T mb FB B es u W:=
 ⟨h.tb.below hb,h.bel.trans (hb.mono h.bel.size),h.fb.below hb,h.nB,h.nM⟩
def ZqW (w:World) (cs:List Cls) (T mb FB s:Nat) (wr:World):Prop:=∃ B es u,NewJ w T mb FB B es u wr/\
 ((s=0/\es=startL/\u=8)\/(s=1/\es=startL/\u=8/\∀ c ∈ cs,c.e=0)\/
  (s=2/\es=Zat cs/\u=8/\(∀ c ∈ cs,c.e=0)/\∀ k c,cs[k]? = some c->Zad (Zaw cs k) c.name=none)\/
  (s=3/\es=newT cs/\u=(newT cs).length/\Lined cs))
theorem ZpY {A:Nat->Prop} (cs:List Cls) (sv:Value) (w:World) (hs:Src 8 ClsR A w sv cs) (hF:FaultTab w) (hC:CT w) (hfit:∀ c ∈ cs,c.Fit) (hheld:∀ c ∈ cs,c.held) (hlen:cs.length<=1000) :
  Calls Tryz.prog 25 #[sv] w (NewG cs w):=by
 have hmf:∀ (fn:Fn) (first cap:Array Value) (w:World),(Instr.makeFunc fn first cap).run Tryz.prog w=.ok (.func fn first cap) w:=fun _ _ _ _=>rfl
 have he0:∀ args w,(callFunc 43 args).run Tryz.prog w=.ok (.enter 43 args) w:=Zai Tryz.func43 (by kernel_rfl) rfl
 have he1:∀ args w,(callFunc 44 args).run Tryz.prog w=.ok (.enter 44 args) w:=Zai Tryz.func44 (by kernel_rfl) rfl
 have he2:∀ args w,(callFunc 45 args).run Tryz.prog w=.ok (.enter 45 args) w:=Zai Tryz.func45 (by kernel_rfl) rfl
 obtain ⟨so,sc,rfl⟩:=hs.shape;obtain ⟨n,hn⟩:∃ n,n=cs.length:=⟨_,rfl⟩
 have HS:=Hd (ClsR.st.srcMono (A':=fun k=>k<w.heap.size) hs (fun k hk _=>hk));have HST:=Hd (ZnG w hF);have HC:=Hd hC;have HFIT:=Hd hfit;have HHELD:=Hd hheld;rw [←hn] at HS hlen ⊢;have HN:=Hd hn;clear hs hF hC hn hfit hheld;go_enter Tryz.func25,Tryz.ntmps25
 go_wp2_with fail
 refine HST.o.mono ?_;rintro e1 w1 ⟨T,mb,B,rfl,htb,hb1⟩;have HTB:=Hd htb;have HB1:=Hd hb1;have t1:w1.cell? ⟨T,0,none⟩=some (.map (some mb)):=htb.tab.box.cell 0 rfl;have hln:=fun ty=>htb.tab.map.len (t:=79) Tryz.underlying79 ty
 rw [ZaG] at hln;clear htb hb1 HST
 go_upto_region 4 with fail
 clear t1 hln;have hJ0:NewJ w T mb w1.heap.size B startL 8 (w1.alloc (.cells #[.func (.func 43) #[] #[],.func (.func 44) #[.pointer (some ⟨T,0,none⟩)] #[],.func (.func 45) #[.pointer (some ⟨T,0,none⟩)] #[]] 82)):=by
  have hbe:Below w1.heap.size w1 (w1.alloc (.cells #[.func (.func 43) #[] #[],.func (.func 44) #[.pointer (some ⟨T,0,none⟩)] #[],.func (.func 45) #[.pointer (some ⟨T,0,none⟩)] #[]] 82)):=Zaa (Yab _ _) _;exact ⟨HTB.o.below hbe,HB1.o.trans (hbe.mono HB1.o.size),Box.new w1 _ _,fun i hi e=>by have:=HTB.o.tab.lt hi;omega,fun e=>by have:=HTB.o.tab.map.lt;omega⟩
 generalize w1.heap.size=FB at hJ0 ⊢;generalize w1.alloc (.cells #[.func (.func 43) #[] #[],.func (.func 44) #[.pointer (some ⟨T,0,none⟩)] #[],.func (.func 45) #[.pointer (some ⟨T,0,none⟩)] #[]] 82)=W2 at hJ0 ⊢;have HJ0:=Hd hJ0;clear hJ0 HTB HB1
 go_loopw [29] (fun v29 wr=>∃ s:Nat,s<=3/\v29=.int .i64 s/\ZqW w cs T mb FB s wr) (fun v29 _=>3 - (intOf v29).toNat)
 case atStart=>exact ⟨0,by omega,rfl,_,_,_,HJ0.o,.inl ⟨rfl,rfl,rfl⟩⟩
 case round=>
  obtain ⟨s,hs3,rfl,B,es,u,hj,hst⟩:=hrel;rcases hst with ⟨rfl,rfl,rfl⟩|⟨rfl,rfl,rfl,hall⟩|⟨rfl,rfl,rfl,hall,hnm⟩|⟨rfl,rfl,rfl,hlined⟩
  ·have HJ:=Hd hj;have f0:wr.cell? ⟨FB,0,none⟩=some (.func (.func 43) #[] #[]):=hj.fb.cell 0 rfl;clear hj HJ0;go_wp2;obtain ⟨wo,rfl⟩:∃ wo,wo=wr:=⟨_,rfl⟩
   clear f0
   go_loopw [35] (fun v35 wr=>∃ k:Nat,k<=n/\v35=.int .i64 k/\Below wo.heap.size wo wr/\∀ j d,j<k->cs[j]? = some d->d.e=0) (fun v35 _=>n - (intOf v35).toNat)
   case atStart=>exact ⟨0,Yai _,rfl,Yab _ _,fun j d h _=>absurd h (YbO _)⟩
   case round=>
    obtain ⟨k,hk,rfl,hbw,hok⟩:=hrel;have HOK:=Hd hok;have HWO:=Hd hbw;have HBW:=Hd (HJ.o.bel.trans (hbw.mono HJ.o.bel.size));clear hok hbw;by_cases hlt:k<n
    ·
     obtain ⟨x,hx⟩:∃ x,cs[k]? = some x:=⟨_,Yaa (by rw [←HN.o];exact hlt)⟩
     have hxm:=Yaf hx;obtain ⟨b,o,v,rfl,hv,_,hcl⟩:=Src.elem (ClsR.st.below HS.o HBW.o) k x hx;obtain ⟨_,_,_,rfl,⟨lo,lc,rfl⟩,⟨fo,fc,rfl⟩,⟨mo,mc,rfl⟩⟩:=ZbO hv;have d0:wr.cell? ⟨b,o+k * 8,none⟩=some (.string (S x.name)):=hcl 0 _ rfl;have d1:wr.cell? ⟨b,o+k * 8+1,none⟩=some (.string (S x.sup)):=hcl 1 _ rfl;have d2:wr.cell? ⟨b,o+k * 8+2,none⟩=some (.slice lo x.like.length lc):=hcl 2 _ rfl;have d3:wr.cell? ⟨b,o+k * 8+3,none⟩=some (.bool x.itf):=hcl 3 _ rfl;have d4:wr.cell? ⟨b,o+k * 8+4,none⟩=some (.bool x.abs):=hcl 4 _ rfl;have d5:wr.cell? ⟨b,o+k * 8+5,none⟩=some (.bool x.fin):=hcl 5 _ rfl;have d6:wr.cell? ⟨b,o+k * 8+6,none⟩=some (.slice fo x.flds.length fc):=hcl 6 _ rfl;have d7:wr.cell? ⟨b,o+k * 8+7,none⟩=some (.slice mo x.mths.length mc):=hcl 7 _ rfl;have hk0:(0:Int)<=(k:Int):=by omega
     have hkn:(k:Int)<(n:Int):=by omega
     have HV:=Hd hv;have HX:=Hd hx;have HXM:=Hd hxm;have hI:Below wr.heap.size wr (wr.alloc (.cells #[.string (S x.name),.string (S x.sup),.slice lo x.like.length lc,.bool x.itf,.bool x.abs,.bool x.fin,.slice fo x.flds.length fc,.slice mo x.mths.length mc] 87))/\Box (wr.alloc (.cells #[.string (S x.name),.string (S x.sup),.slice lo x.like.length lc,.bool x.itf,.bool x.abs,.bool x.fin,.slice fo x.flds.length fc,.slice mo x.mths.length mc] 87)) wr.heap.size #[.string (S x.name),.string (S x.sup),.slice lo x.like.length lc,.bool x.itf,.bool x.abs,.bool x.fin,.slice fo x.flds.length fc,.slice mo x.mths.length mc] 87:=⟨Zaa (Yab _ _) _,Box.new wr _ _⟩;clear hv hcl hx hxm
     go_upto_region 9 with fail
     refine Zav (fun W=>Below wr.heap.size wr W/\Box W wr.heap.size #[.string (S x.name),.string (S x.sup),.slice lo x.like.length lc,.bool x.itf,.bool x.abs,.bool x.fin,.slice fo x.flds.length fc,.slice mo x.mths.length mc] 87) hI ?_;rintro W3 ⟨hb3,hx3⟩;have HB3:=Hd hb3;have r0:=hx3.cell 0 rfl;have r1:=hx3.cell 1 rfl;have r2:=hx3.cell 2 rfl;have r3:=hx3.cell 3 rfl;have r4:=hx3.cell 4 rfl;have r5:=hx3.cell 5 rfl;have r6:=hx3.cell 6 rfl;have r7:=hx3.cell 7 rfl;have HV3:=Hd (Zb3 HV.o hb3);have HBW3:=Hd (HBW.o.trans (hb3.mono HBW.o.size));clear hI hb3 hx3 d0 d1 d2 d3 d4 d5 d6 d7 HV
     go_wp2_with fail
     with_reducible refine (ZjS x _ W3 HV3.o (HC.o.keep HBW3.o) (HFIT.o x HXM.o)).mono ?_
     rintro e4 w4 ⟨rfl,hb4⟩;have HB4:=Hd hb4;clear hb4;clear r0 r1 r2 r3 r4 r5 r6 r7;by_cases hz:x.e=0
     ·rw [hz];have HZ:=Hd hz;clear hz;go_wp2
      go_roundw
      case rel=>
       refine ⟨_,_,_,_,_,_,_,_,_,_,_,_,_,_,_,_,_,_,_,?_,rfl⟩;exact ⟨k+1,by omega,by go_num,HWO.o.trans ((HB3.o.trans (HB4.o.mono HB3.o.size)).mono HWO.o.size),fun j d hj hd=>by
        rcases YaB j k with h1|h1
        ·exact HOK.o j d h1 hd
        ·rw [show j=k by omega,HX.o] at hd;rw [←Yae hd];exact HZ.o⟩
      case measure=>simp [intOf];omega
     ·have HZ:=Hd hz;have hz1:¬ (x.e:Int)=0:=by omega
      have hzb:((x.e:Int) != 0)=true:=by rw [bne_iff_ne];omega
      clear hz;go_wp2
      go_ret3;exact .inl ⟨_,x.e,.inl ⟨k,x,rfl,HX.o,rfl,HZ.o,HOK.o⟩,rfl,HBW3.o.trans (HB4.o.mono HBW3.o.size)⟩
    ·obtain rfl:k=n:=by omega
     go_wp2
     go_roundw
     case rel=>
      refine ⟨1,by omega,by go_num,B,_,_,HJ.o.below HWO.o,.inr (.inl ⟨rfl,rfl,rfl,fun c hc=>?_⟩)⟩;obtain ⟨j,hj⟩:=YbD hc;exact HOK.o j c (by rw [HN.o];exact (Yag.1 hj).1) hj
     case measure=>simp [intOf]
  ·have HJ:=Hd hj;have HALL:=Hd hall;have f0:wr.cell? ⟨FB,1,none⟩=some (.func (.func 44) #[.pointer (some ⟨T,0,none⟩)] #[]):=hj.fb.cell 1 rfl;clear hj HJ0 hall;go_wp2;obtain ⟨wo,rfl⟩:∃ wo,wo=wr:=⟨_,rfl⟩
   clear f0
   go_loopw [35] (fun v35 wr=>∃ (k:Nat) (B2:Nat->Nat),k<=n/\v35=.int .i64 k/\NewJ w T mb FB B2 (Zaw cs k) 8 wr/\∀ j d,j<k->cs[j]? = some d->Zad (Zaw cs j) d.name=none) (fun v35 _=>n - (intOf v35).toNat)
   case atStart=>exact ⟨0,B,Yai _,rfl,by rw [Zd6];exact HJ.o,fun j d h _=>absurd h (YbO _)⟩
   case round=>
    obtain ⟨k,B2,hk,rfl,hj2,hok⟩:=hrel;have HOK:=Hd hok;have HJ2:=Hd hj2;have HBW:=Hd hj2.bel;clear hok hj2;by_cases hlt:k<n
    ·
     obtain ⟨x,hx⟩:∃ x,cs[k]? = some x:=⟨_,Yaa (by rw [←HN.o];exact hlt)⟩
     have hxm:=Yaf hx;obtain ⟨b,o,v,rfl,hv,_,hcl⟩:=Src.elem (ClsR.st.below HS.o HBW.o) k x hx;obtain ⟨_,_,_,rfl,⟨lo,lc,rfl⟩,⟨fo,fc,rfl⟩,⟨mo,mc,rfl⟩⟩:=ZbO hv;have d0:wr.cell? ⟨b,o+k * 8,none⟩=some (.string (S x.name)):=hcl 0 _ rfl;have d1:wr.cell? ⟨b,o+k * 8+1,none⟩=some (.string (S x.sup)):=hcl 1 _ rfl;have d2:wr.cell? ⟨b,o+k * 8+2,none⟩=some (.slice lo x.like.length lc):=hcl 2 _ rfl;have d3:wr.cell? ⟨b,o+k * 8+3,none⟩=some (.bool x.itf):=hcl 3 _ rfl;have d4:wr.cell? ⟨b,o+k * 8+4,none⟩=some (.bool x.abs):=hcl 4 _ rfl;have d5:wr.cell? ⟨b,o+k * 8+5,none⟩=some (.bool x.fin):=hcl 5 _ rfl;have d6:wr.cell? ⟨b,o+k * 8+6,none⟩=some (.slice fo x.flds.length fc):=hcl 6 _ rfl;have d7:wr.cell? ⟨b,o+k * 8+7,none⟩=some (.slice mo x.mths.length mc):=hcl 7 _ rfl;have hk0:(0:Int)<=(k:Int):=by omega
     have hkn:(k:Int)<(n:Int):=by omega
     have HV:=Hd hv;have HX:=Hd hx;have HXM:=Hd hxm;have hI:Below wr.heap.size wr (wr.alloc (.cells #[.string (S x.name),.string (S x.sup),.slice lo x.like.length lc,.bool x.itf,.bool x.abs,.bool x.fin,.slice fo x.flds.length fc,.slice mo x.mths.length mc] 87))/\Box (wr.alloc (.cells #[.string (S x.name),.string (S x.sup),.slice lo x.like.length lc,.bool x.itf,.bool x.abs,.bool x.fin,.slice fo x.flds.length fc,.slice mo x.mths.length mc] 87)) wr.heap.size #[.string (S x.name),.string (S x.sup),.slice lo x.like.length lc,.bool x.itf,.bool x.abs,.bool x.fin,.slice fo x.flds.length fc,.slice mo x.mths.length mc] 87:=⟨Zaa (Yab _ _) _,Box.new wr _ _⟩;clear hv hcl hx hxm
     go_upto_region 9 with fail
     refine Zav (fun W=>Below wr.heap.size wr W/\Box W wr.heap.size #[.string (S x.name),.string (S x.sup),.slice lo x.like.length lc,.bool x.itf,.bool x.abs,.bool x.fin,.slice fo x.flds.length fc,.slice mo x.mths.length mc] 87) hI ?_;rintro W3 ⟨hb3,hx3⟩;have HB3:=Hd hb3;have r0:=hx3.cell 0 rfl;have r1:=hx3.cell 1 rfl;have r2:=hx3.cell 2 rfl;have r3:=hx3.cell 3 rfl;have r4:=hx3.cell 4 rfl;have r5:=hx3.cell 5 rfl;have r6:=hx3.cell 6 rfl;have r7:=hx3.cell 7 rfl;have HV3:=Hd (Zb3 HV.o hb3);have HBW3:=Hd (HBW.o.trans (hb3.mono HBW.o.size));clear hI hb3 hx3 d0 d1 d2 d3 d4 d5 d6 d7 HV;have hgood:x.Good:=⟨HALL.o x HXM.o,HHELD.o x HXM.o⟩;have hel:(Zaw cs k).length=8+k:=Zhd cs (by rw [←HN.o];omega);have hJ3:=HJ2.o.below HB3.o;have HJ3:=Hd hJ3;have HEN:=Hd (Zhc x _ W3 hJ3.tb HBW3.o.size HV3.o hgood.small (by omega));have HEL:=Hd hel;clear hgood hJ3 hel
     go_wp2_with fail
     with_reducible refine HEN.o.mono ?_
     rintro e4 w4 ⟨hen1,hen2⟩;clear r0 r1 r2 r3 r4 r5 r6 r7;cases hp:Zad (Zaw cs k) x.name with
     | some j0=>
      obtain ⟨rfl,hb4⟩:=hen1 (by rw [hp];rfl);have HP:Hid ((Zad (Zaw cs k) x.name).isSome=true):=Hd (by rw [hp];rfl);have HB4:=Hd hb4;clear hen1 hen2 hb4 hp HEN;go_wp2
      go_ret3;exact .inl ⟨_,60,.inr ⟨HALL.o,.inl ⟨k,x,rfl,HX.o,rfl,HP.o,HOK.o⟩⟩,rfl,HBW3.o.trans (HB4.o.mono HBW3.o.size)⟩
     | none=>
      obtain ⟨rfl,ho4,b4,hb4,ht4⟩:=hen2 hp;have HP:=Hd hp;have hfl:=HJ3.o.fb.lt;have hj4:NewJ w T mb FB (addB B2 (8+k) b4) (Zaw cs (k+1)) 8 w4:=by
       rw [Zd5 HX.o,←HEL.o];refine ⟨ht4,HJ3.o.bel.trans (ho4.below HJ3.o.bel.size (fun q (e:q=mb)=>by have:=HJ3.o.tb.tM;omega)),HJ3.o.fb.keep ho4 (fun e=>HJ3.o.nM e.symm),fun i hi=>?_,HJ3.o.nM⟩;rw [Yak] at hi;by_cases e:i=(Zaw cs k).length
       ·rw [e,ZbL];omega
       ·rw [Zge (by simp at hi;omega)];exact HJ3.o.nB i (by simp at hi;omega)
      have HJ4:=Hd hj4;clear hen1 hen2 ho4 hb4 ht4 hp hfl hj4 HEN;go_wp2
      go_roundw
      case rel=>
       refine ⟨_,_,_,_,_,_,_,_,_,_,_,_,_,_,_,_,_,_,_,?_,rfl⟩;exact ⟨k+1,_,by omega,by go_num,HJ4.o,fun j d hj hd=>by
        rcases YaB j k with h1|h1
        ·exact HOK.o j d h1 hd
        ·rw [show j=k by omega,HX.o] at hd;rw [←Yae hd,show j=k by omega];exact HP.o⟩
      case measure=>simp [intOf];omega
    ·obtain rfl:k=n:=by omega
     go_wp2
     go_roundw
     case rel=>
      refine ⟨2,by omega,by go_num,B2,_,_,HJ2.o,.inr (.inr (.inl ⟨rfl,by rw [HN.o,ZcS],rfl,HALL.o,fun j c hj=>?_⟩))⟩;exact HOK.o j c (by rw [HN.o];exact (Yag.1 hj).1) hj
     case measure=>simp [intOf]
  ·have HJ:=Hd hj;have HALL:=Hd hall;have HNM:=Hd hnm;have f0:wr.cell? ⟨FB,2,none⟩=some (.func (.func 45) #[.pointer (some ⟨T,0,none⟩)] #[]):=hj.fb.cell 2 rfl;clear hj HJ0 hall hnm;go_wp2;obtain ⟨wo,rfl⟩:∃ wo,wo=wr:=⟨_,rfl⟩
   clear f0
   go_loopw [35] (fun v35 wr=>∃ k:Nat,k<=n/\v35=.int .i64 k/\NewJ w T mb FB B (Za9 cs k) (8+k) wr/\∀ j d,j<k->cs[j]? = some d->(upE (Zat cs) d.sup).isSome=true/\ZaH (Zat cs) d.like=true) (fun v35 _=>n - (intOf v35).toNat)
   case atStart=>exact ⟨0,Yai _,rfl,by rw [ZhD];exact HJ.o,fun j d h _=>absurd h (YbO _)⟩
   case round=>
    obtain ⟨k,hk,rfl,hj2,hok⟩:=hrel;have HOK:=Hd hok;have HJ2:=Hd hj2;have HBW:=Hd hj2.bel;clear hok hj2;by_cases hlt:k<n
    ·
     obtain ⟨x,hx⟩:∃ x,cs[k]? = some x:=⟨_,Yaa (by rw [←HN.o];exact hlt)⟩
     have hxm:=Yaf hx;obtain ⟨b,o,v,rfl,hv,_,hcl⟩:=Src.elem (ClsR.st.below HS.o HBW.o) k x hx;obtain ⟨_,_,_,rfl,⟨lo,lc,rfl⟩,⟨fo,fc,rfl⟩,⟨mo,mc,rfl⟩⟩:=ZbO hv;have d0:wr.cell? ⟨b,o+k * 8,none⟩=some (.string (S x.name)):=hcl 0 _ rfl;have d1:wr.cell? ⟨b,o+k * 8+1,none⟩=some (.string (S x.sup)):=hcl 1 _ rfl;have d2:wr.cell? ⟨b,o+k * 8+2,none⟩=some (.slice lo x.like.length lc):=hcl 2 _ rfl;have d3:wr.cell? ⟨b,o+k * 8+3,none⟩=some (.bool x.itf):=hcl 3 _ rfl;have d4:wr.cell? ⟨b,o+k * 8+4,none⟩=some (.bool x.abs):=hcl 4 _ rfl;have d5:wr.cell? ⟨b,o+k * 8+5,none⟩=some (.bool x.fin):=hcl 5 _ rfl;have d6:wr.cell? ⟨b,o+k * 8+6,none⟩=some (.slice fo x.flds.length fc):=hcl 6 _ rfl;have d7:wr.cell? ⟨b,o+k * 8+7,none⟩=some (.slice mo x.mths.length mc):=hcl 7 _ rfl;have hk0:(0:Int)<=(k:Int):=by omega
     have hkn:(k:Int)<(n:Int):=by omega
     have HV:=Hd hv;have HX:=Hd hx;have HXM:=Hd hxm;have hI:Below wr.heap.size wr (wr.alloc (.cells #[.string (S x.name),.string (S x.sup),.slice lo x.like.length lc,.bool x.itf,.bool x.abs,.bool x.fin,.slice fo x.flds.length fc,.slice mo x.mths.length mc] 87))/\Box (wr.alloc (.cells #[.string (S x.name),.string (S x.sup),.slice lo x.like.length lc,.bool x.itf,.bool x.abs,.bool x.fin,.slice fo x.flds.length fc,.slice mo x.mths.length mc] 87)) wr.heap.size #[.string (S x.name),.string (S x.sup),.slice lo x.like.length lc,.bool x.itf,.bool x.abs,.bool x.fin,.slice fo x.flds.length fc,.slice mo x.mths.length mc] 87:=⟨Zaa (Yab _ _) _,Box.new wr _ _⟩;clear hv hcl hx hxm
     go_upto_region 9 with fail
     refine Zav (fun W=>Below wr.heap.size wr W/\Box W wr.heap.size #[.string (S x.name),.string (S x.sup),.slice lo x.like.length lc,.bool x.itf,.bool x.abs,.bool x.fin,.slice fo x.flds.length fc,.slice mo x.mths.length mc] 87) hI ?_;rintro W3 ⟨hb3,hx3⟩;have HB3:=Hd hb3;have r0:=hx3.cell 0 rfl;have r1:=hx3.cell 1 rfl;have r2:=hx3.cell 2 rfl;have r3:=hx3.cell 3 rfl;have r4:=hx3.cell 4 rfl;have r5:=hx3.cell 5 rfl;have r6:=hx3.cell 6 rfl;have r7:=hx3.cell 7 rfl;have HV3:=Hd (Zb3 HV.o hb3);have HBW3:=Hd (HBW.o.trans (hb3.mono HBW.o.size));clear hI hb3 hx3 d0 d1 d2 d3 d4 d5 d6 d7 HV;have hgood:x.Good:=⟨HALL.o x HXM.o,HHELD.o x HXM.o⟩;have hel:(Za9 cs k).length=8+cs.length:=ZdU cs (by rw [←HN.o];omega);have hcls:=Zff cs k;have hJ3:=HJ2.o.below HB3.o;have HJ3:=Hd hJ3;have hget:=ZiJ HX.o;have huq:Uniq (Za9 cs k):=Uniq.cls hcls (by rw [←ZcS];exact Zcm HNM.o _ (Yac _));have hil:8+k<(Za9 cs k).length:=by rw [hel,←HN.o];omega
     have HLK:=Hd (Zjo x _ W3 hJ3.tb HBW3.o.size hget (huq _ _ hget) HV3.o (fun q hq e=>by have h1:=hJ3.tb.tB _ hil;have h2:q<w.heap.size:=hq;omega) hgood.small (by rw [hel,←HN.o];omega));have HIL:=Hd hil;have HCLS:=Hd hcls;clear hgood hJ3 hel hcls hget huq hil
     go_wp2_with fail
     with_reducible refine HLK.o.mono ?_
     rintro e4 w4 ⟨hl1,hl2,hl3⟩;clear r0 r1 r2 r3 r4 r5 r6 r7;rw [ZnO HCLS.o,Zfb HCLS.o] at hl2;rw [ZnO HCLS.o] at hl1 hl3;rw [Zfb HCLS.o,Zkn HCLS.o] at hl3;have hBb:∀ w',Only (fun q=>q=B (8+k)) W3 w'->Below w.heap.size w w':=fun w' ho=>HBW3.o.trans (ho.below HBW3.o.size (fun q (e:q=B (8+k))=>by have:=HJ3.o.tb.tB _ HIL.o;omega))
     have HBB:=Hd hBb;clear hBb HLK;cases hu:upE (Zat cs) x.sup with
     | none=>
      obtain ⟨rfl,hb4⟩:=hl1 hu;have HU:=Hd hu;have HB4:=Hd hb4;clear hl1 hl2 hl3 hb4 hu;go_wp2
      go_ret3;exact .inl ⟨_,61,.inr ⟨HALL.o,.inr ⟨HNM.o,.inl ⟨k,x,rfl,HX.o,.inl ⟨rfl,HU.o⟩,HOK.o⟩⟩⟩,rfl,HBW3.o.trans (HB4.o.mono HBW3.o.size)⟩
     | some j0=>
      cases hlk:ZaH (Zat cs) x.like with
      | false=>
       obtain ⟨rfl,ho4⟩:=hl2 (by rw [hu];rfl) hlk;have HU:Hid ((upE (Zat cs) x.sup).isSome=true):=Hd (by rw [hu];rfl);have HLQ:=Hd hlk;have HO4:=Hd ho4;clear hl1 hl2 hl3 ho4 hu hlk;go_wp2
       go_ret3;exact .inl ⟨_,62,.inr ⟨HALL.o,.inr ⟨HNM.o,.inl ⟨k,x,rfl,HX.o,.inr ⟨rfl,HU.o,HLQ.o⟩,HOK.o⟩⟩⟩,rfl,HBB.o _ HO4.o⟩
      | true=>
       obtain ⟨rfl,ho4,ht4⟩:=hl3 j0 hu hlk;have hlo:(⟨x,some j0,Zbw (Zat cs) x.like⟩:Ent)=Zc1 cs x:=by unfold Zc1;rw [hu]
       rw [hlo,ZhC HX.o] at ht4;have HU:Hid ((upE (Zat cs) x.sup).isSome=true/\ZaH (Zat cs) x.like=true):=Hd ⟨by rw [hu];rfl,hlk⟩;have HJ4:Hid (NewJ w T mb FB B (Za9 cs (k+1)) (8+(k+1)) w4):=Hd ⟨ht4,HBB.o _ ho4,HJ3.o.fb.keep ho4 (fun e=>HJ3.o.nB _ HIL.o e.symm),fun i hi=>HJ3.o.nB i (by rw [ZdU cs (by rw [←HN.o];omega)];rw [ZdU cs (by rw [←HN.o];omega)] at hi;exact hi),HJ3.o.nM⟩;clear hl1 hl2 hl3 ho4 ht4 hlo hu hlk;go_wp2
       go_roundw
       case rel=>
        refine ⟨_,_,_,_,_,_,_,_,_,_,_,_,_,_,_,_,_,_,_,?_,rfl⟩;exact ⟨k+1,by omega,by go_num,HJ4.o,fun j d hj hd=>by
         rcases YaB j k with h1|h1
         ·exact HOK.o j d h1 hd
         ·rw [show j=k by omega,HX.o] at hd;rw [←Yae hd];exact HU.o⟩
       case measure=>simp [intOf];omega
    ·obtain rfl:k=n:=by omega
     have hfl:∀ c ∈ cs,(upE (Zat cs) c.sup).isSome=true/\ZaH (Zat cs) c.like=true:=fun c hc=>by
      obtain ⟨j,hj⟩:=YbD hc;exact HOK.o j c (by rw [HN.o];exact (Yag.1 hj).1) hj
     have HFL:=Hd hfl;clear hfl;go_wp2
     go_roundw
     case rel=>
      refine ⟨3,by omega,by go_num,B,_,_,HJ2.o,.inr (.inr (.inr ⟨rfl,by rw [HN.o,Zfe],by rw [ZaR,HN.o],?_⟩))⟩;exact ⟨by rw [←HN.o];exact hlen,fun c hc=>⟨HALL.o c hc,HHELD.o c hc⟩,HNM.o,fun c hc=>(HFL.o c hc).1,fun c hc=>(HFL.o c hc).2⟩
     case measure=>simp [intOf]
  ·have HL:=Hd hlined;have HB:=Hd hj.bel;have HTB:=Hd hj.tb;obtain ⟨m,hm⟩:∃ m,m=(newT cs).length:=⟨_,rfl⟩
   have hmb:(newT cs).length<=1048576:=by rw [ZaR];have:=hlined.len;omega
   have HIN:=Hd (ZiF hj.tb.tab hlined.uniq hmb wr (Yab _ _));have hlk:∀ (i:Nat) (e:Ent),(newT cs)[i]? = some e->e.lk.length<=9223372036854775807:=fun i e he=>by have:=(hlined.small i e he).2.2.2;omega
   have HLP:Hid (∀ X g,Below wr.heap.size wr X->MRow X g (newT cs).length 94 ((List.range (newT cs).length).map (entV B))->Calls Tryz.prog 48 #[.slice (some ⟨g,0,none⟩) (newT cs).length (newT cs).length] X (Zps (newT cs) X)):=Hd (fun X g hX hr=>Zkq X (HTB.o.below hX).tab hmb hlk hlined.par g hr);have HFP:Hid (∀ X g,Below wr.heap.size wr X->MRow X g (newT cs).length 94 ((List.range (newT cs).length).map (entV B))->Calls Tryz.prog 49 #[.slice (some ⟨g,0,none⟩) (newT cs).length (newT cs).length] X (Zpg B (newT cs) X)):=Hd (fun X g hX hr=>Zmb X (HTB.o.below hX).tab hmb hlk hlined.par g hr);have hfl:=ZdG hmb hlined.par hlined.self;have HFL:=Hd hfl;have HM:=Hd hm;have HMB:=Hd hmb;rw [←hm] at HIN HLP HFP hmb;clear hj HJ0 hlined hlk hfl hm
   go_wp2_with fail
   with_reducible refine HIN.o.mono ?_
   rintro e2 w2 ⟨g,rfl,_,hrow,hb2⟩;have HROW:=Hd hrow;have HB2:=Hd hb2;have HC2:=Hd (HLP.o w2 g hb2 hrow);clear hrow hb2 HIN HLP
   go_wp2_with fail
   with_reducible refine HC2.o.mono ?_
   rintro e3 w3 ⟨gl,rfl,hrl,_,hb3⟩;rw [←HM.o] at hrl ⊢;have hll:(ZaI (newT cs) m).loop.length=m:=by have:=HFL.o.1;rwa [←HM.o] at this
   have HIX:Hid (Calls Tryz.prog 47 #[.slice (some ⟨gl,0,none⟩) m m,.bool true] w3 (Zpi (ZaI (newT cs) m).loop w3)):=Hd (by
    have q:=Zml (ZaI (newT cs) m).loop w3 gl (by rw [hll];exact hrl) (by rw [hll];exact hmb);rw [hll] at q;exact q)
   have HB3:=Hd (HB2.o.trans (hb3.mono HB2.o.size));have HB23:=Hd hb3;obtain ⟨z,hz⟩:∃ z,z=firstT (ZaI (newT cs) m).loop:=⟨_,rfl⟩
   have hzb:-1<=z/\z<=1048576:=by
    rw [hz];unfold firstT;split
    ·rename_i h
     rw [hll] at h;omega
    ·omega
   have HZ:=Hd hz;clear hrl hll hb3 HC2 hz
   go_wp2_with fail
   with_reducible refine HIX.o.mono ?_
   rintro e4 w4 ⟨rfl,rfl⟩;rw [←HZ.o];obtain ⟨hz1,hz2⟩:=hzb;clear HIX;by_cases hz0:0<=z
   ·go_wp2
    go_ret3;refine .inl ⟨_,63,.inr ⟨fun c hc=>(HL.o.good c hc).1,.inr ⟨HL.o.names,.inr ⟨HL.o,.inl ⟨?_,?_,rfl⟩⟩⟩⟩,rfl,HB.o.trans (HB3.o.mono HB.o.size)⟩
    ·rw [←HM.o,←HZ.o];exact hz0
    ·rw [←HM.o,←HZ.o]
   ·have hz3:¬ (0<=z):=hz0;have hzf:decide (0<=z)=false:=Yaj hz0;have HCF:=Hd (HFP.o w4 g HB3.o (HROW.o.keep (Yad (S:=fun _=>False) HB23.o) id));clear HFP hz0
    go_wp2_with fail
    with_reducible refine HCF.o.mono ?_
    rintro e5 w5 ⟨ov,rfl,hso,hb5⟩;obtain ⟨oo,oc,rfl⟩:=hso.shape;rw [←HM.o] at hso ⊢;have hac:Acyc (newT cs):=Zep HFL.o (by rw [←HM.o,←HZ.o];omega);have hsh:=HL.o.shape hac;have hml:∀ i,(Zar (newT cs) i).length<=32:=fun i=>by
     unfold Zar;cases he:(newT cs)[i]? with
     | none=>simp
     | some e=>exact (HL.o.small i e he).2.2.1
    have HCK:Hid (∀ x X,x<m->Below wr.heap.size wr X->Calls Tryz.prog 50 #[.pointer (some ⟨T,0,none⟩),entV B x] X (fun e w'=>e=.returned (.int .i64 (chkT (newT cs) x:Nat))/\Below X.heap.size X w')):=Hd (fun x X hx hX=>ZpF HTB.o.tab hsh HL.o.par hml HL.o.goodT (fitT HFIT.o) x (by rw [←HM.o];exact hx) X hX);have HOB:Hid (∀ y ∈ Zb1 (newT cs) m,y<m):=Hd (by rw [HM.o];exact Zni HL.o.par);have hol:(Zb1 (newT cs) m).length<=m:=by rw [HM.o];exact Zk6 HL.o.par
    have HSO:=Hd hso;have HB5:=Hd (HB3.o.trans (hb5.mono HB3.o.size));obtain ⟨wo,rfl⟩:∃ wo,wo=wr:=⟨_,rfl⟩
    obtain ⟨O,hO⟩:∃ O,O=Zb1 (newT cs) m:=⟨_,rfl⟩
    rw [←hO] at HSO HOB hol ⊢;obtain ⟨q,hq⟩:∃ q,q=O.length:=⟨_,rfl⟩
    rw [←hq] at HSO hol ⊢;have HQ:=Hd hq;have HO:=Hd hO;clear HCF hso hb5 hac hsh hml hO hq;go_wp2
    go_loopw [62] (fun v62 wr=>∃ k:Nat,k<=q/\v62=.int .i64 k/\Below w5.heap.size w5 wr/\∀ j y,j<k->O[j]? = some y->chkT (newT cs) y=0) (fun v62 _=>q - (intOf v62).toNat)
    case atStart=>exact ⟨0,Yai _,rfl,Yab _ _,fun j y h _=>absurd h (YbO _)⟩
    case round=>
     obtain ⟨k,hk,rfl,hbw,hok⟩:=hrel;have HOK:=Hd hok;have HWR:=Hd hbw;have HBW:=Hd (HB5.o.trans (hbw.mono HB5.o.size));clear hok hbw;by_cases hlt:k<q
     ·obtain ⟨x,hx⟩:∃ x,O[k]? = some x:=⟨_,Yaa (by rw [←HQ.o];exact hlt)⟩
      have hxm:=HOB.o x (Yaf hx);obtain ⟨b,o,v,rfl,hv,_,hcl⟩:=Src.elem ((EntP.st B).below HSO.o HWR.o) k x hx;obtain rfl:=hv;have d0:wr.cell? ⟨b,o+k,none⟩=some (entV B x):=by have q:=hcl 0 _ rfl;rw [YaG] at q;exact q
      have hk0:(0:Int)<=(k:Int):=by omega
      have hkn:(k:Int)<(q:Int):=by omega
      have HX:=Hd hx;have HXM:=Hd hxm;have HCALL:=Hd (HCK.o x wr hxm HBW.o);clear hcl hx
      go_wp2_with fail
      with_reducible refine HCALL.o.mono ?_
      rintro e6 w6 ⟨rfl,hb6⟩;have HB6:=Hd hb6;have HBW6:=Hd (HBW.o.trans (hb6.mono HBW.o.size));clear hb6 d0 HCALL;by_cases hc:chkT (newT cs) x=0
      ·rw [hc];have HCH:=Hd hc;clear hc;go_wp2
       go_roundw
       case rel=>exact ⟨k+1,by omega,by go_num,HWR.o.trans (HB6.o.mono HWR.o.size),fun j y hj hy=>by
        rcases YaB j k with h1|h1
        ·exact HOK.o j y h1 hy
        ·rw [show j=k by omega,HX.o] at hy;rw [←Yae hy];exact HCH.o⟩
       case measure=>simp [intOf];omega
      ·have HCH:=Hd hc;have hc1:¬ ((chkT (newT cs) x:Nat):Int)=0:=by omega
       have hcb:(((chkT (newT cs) x:Nat):Int) != 0)=true:=by rw [bne_iff_ne];omega
       obtain ⟨ex,hex⟩:∃ ex,(newT cs)[x]? = some ex:=⟨_,Yaa (by rw [←HM.o];exact hxm)⟩
       obtain ⟨_,_,_,_,hbx,_⟩:=(HTB.o.below HBW6.o).tab.ent x ex hex;have c0:w6.cell? ⟨B x,0,none⟩=some (.int .i64 x):=hbx.cell 0 rfl;have hx1:(0:Int)<=(x:Int):=by omega
       have hx2:(x:Int)<=1048576:=by omega
       have HSB:Hid (∀ X,Below w6.heap.size w6 X->X.cell? ⟨B x,0,none⟩=some (.int .i64 x)):=Hd (fun X hX=>(Yad (S:=fun _=>False) hX).cell c0 id);have h0:Below w6.heap.size w6 w6:=Yab _ _;clear hc hex hbx
       go_upto_region 23 with fail
       first
       | (go_region_held (fun X=>X.cell? ⟨B x,0,none⟩=some (.int .i64 x)) ((refine HSB.o _ ?_;(repeat (first|(with_reducible exact Yab _ _)|(with_reducible assumption)|(with_reducible refine Zab ?_))))) (fail))
       | fail
       have HWP:Hid (IntKind.i64.wrap ((x:Int) - 8)=(x:Int) - 8):=Hd (by unfold IntKind.wrap;simp [IntKind.bits,IntKind.signed];omega);clear c0 h0 HSB;go_wp2
       go_ret3;refine .inl ⟨(x:Int) - 8,chkT (newT cs) x,.inr ⟨fun c hc=>(HL.o.good c hc).1,.inr ⟨HL.o.names,.inr ⟨HL.o,.inr ⟨?_,k,x,?_,rfl,rfl,HCH.o,?_⟩⟩⟩⟩,by (show Ending.returned (.tuple #[.pointer none,.int .i64 (IntKind.i64.wrap ((x:Int) - 8)),.int .i64 ((chkT (newT cs) x:Nat):Int)])=_;rw [HWP.o]),HB.o.trans ((Zab HBW6.o).mono HB.o.size)⟩
       ·rw [←HM.o,←HZ.o];omega
       ·rw [←HM.o,←HO.o];exact HX.o
       ·rw [←HM.o,←HO.o];exact HOK.o
     ·obtain rfl:k=q:=by omega
      go_wp2
      go_ret3;refine .inr ⟨⟨HL.o,by rw [←HM.o,←HZ.o];omega,fun y hy=>?_⟩,T,mb,B,rfl,HTB.o.below HBW.o,HB.o.trans (HBW.o.mono HB.o.size)⟩;rw [←HM.o,←HO.o] at hy;obtain ⟨j,hj⟩:=YbD hy;exact HOK.o j y (by rw [HQ.o];exact (Yag.1 hj).1) hj
theorem NewOk.acyc {cs:List Cls} (h:NewOk cs):Acyc (newT cs):=Zep (ZdG (by have:=h.lined.len;rw [ZaR];omega) (fun c d hd=>h.lined.par c d hd) h.lined.self) h.loops
theorem NewOk.shape {cs:List Cls} (h:NewOk cs):Shape (newT cs):=h.lined.shape h.acyc
