/- laws -/
import Derived.Test.YtggcdinoflchjaaGreatDoorK22
import Derived.Laws.EntriesVeiled
set_option maxRecDepth 100000
set_option maxHeartbeats 16000000
namespace Go.Proofs.YtggcdinoflchjaaGreatDoor
open Go.RowKit
def firstT (l:List Bool):Int:=if l.findIdx id<l.length then (l.findIdx id:Nat) else -1
def Zpi (l:List Bool) (w:World) (e:Ending) (w':World):Prop:=e=.returned (.int .i64 (firstT l))/\w'=w
theorem Zml (l:List Bool) (w:World) (g:Nat) (h:MRow w g l.length 4 (l.map .bool)) (hlen:l.length<=1048576) :
  Calls Tryz.prog 47 #[.slice (some ⟨g,0,none⟩) l.length l.length,.bool true] w (Zpi l w):=by
 obtain ⟨n,hn⟩:∃ n,n=l.length:=⟨_,rfl⟩
 rw [←hn] at h hlen ⊢;have HR:=Hd h;have HN:=Hd hn;clear h hn;go_enter Tryz.func47,Tryz.ntmps47;go_wp2
 go_loopw [8] (fun v8 wr=>∃ k:Nat,k<=n/\v8=.int .i64 k/\wr=w/\∀ j,j<k->l[j]? = some false) (fun v8 _=>n - (intOf v8).toNat)
 case atStart=>exact ⟨0,Yai _,rfl,rfl,fun j hj=>absurd hj (YbO _)⟩
 case round=>
  obtain ⟨k,hk,rfl,rfl,hno⟩:=hrel;have HNO:=Hd hno;clear hno;by_cases hlt:k<n
  ·obtain ⟨b,hb⟩:∃ b,l[k]? = some b:=⟨_,Yaa (by rw [←HN.o];exact hlt)⟩
   have c0:wr.cell? ⟨g,k,none⟩=some (.bool b):=by rw [HR.o.at_ k hlt,Yau,hb];rfl
   have hk0:(0:Int)<=(k:Int):=by omega
   have hkn:(k:Int)<(n:Int):=by omega
   have HBK:=Hd hb;clear hb;cases b with
   | true=>
    go_wp2;go_ret;refine ⟨?_,rfl⟩;have h1:l.findIdx id=k:=by
     have hkl:k<l.length:=by rw [←HN.o];exact hlt
     refine (List.findIdx_eq hkl).2 ⟨?_,fun j hj=>?_⟩
     ·have:=HBK.o;rw [Yaa hkl] at this
      simpa using this
     ·have:=HNO.o j hj;rw [Yaa (by omega)] at this
      simpa using this
    have h2:firstT l=(k:Int):=by
     unfold firstT;rw [h1,YaC (by rw [←HN.o];exact hlt)]
    show Ending.returned (.int .i64 (k:Int))=_
    rw [h2]
   | false=>
    go_wp2
    go_roundw
    case rel=>exact ⟨k+1,by omega,by go_num,trivial,fun j hj=>by
     rcases YaB j k with h1|h1
     ·exact HNO.o j h1
     ·rw [show j=k by omega];exact HBK.o⟩
    case measure=>simp [intOf];omega
  ·obtain rfl:k=n:=by omega
   go_wp2;go_ret;refine ⟨?_,rfl⟩;have h1:¬ l.findIdx id<l.length:=fun h=>by
    have h2:=YbU (xs:=l) (p:=id) (w:=h);have h3:=HNO.o (l.findIdx id) (by rw [HN.o];exact h);rw [Yaa h] at h3;rw [Yae h3] at h2;cases h2
   have h2:firstT l=-1:=by
    unfold firstT;rw [Yas h1]
   show Ending.returned (.int .i64 (-1))=_
   rw [h2]
def parE (es:List Ent) (c:Nat):List Nat:=match es[c]? with|some e=>e.par|none=>[]
theorem ZcK {es:List Ent} {c:Nat} {e:Ent} (h:es[c]? = some e):parE es c=e.par:=by unfold parE;rw [h]
def Zas (es:List Ent):Nat->List Bool × List Nat->Nat->List Bool × List Nat
 | 0,s,_=>s
 | f+1,s,c=>if s.1.getD c false=true then s else
  let t:=(parE es c).foldl (Zas es f) (s.1.set c true,s.2)
  (t.1,t.2++[c])
def ZbU (V:List Bool):Nat:=V.count false
theorem Zed:∀ {V:List Bool} {c:Nat},V[c]? = some false->ZbU (V.set c true)+1=ZbU V
 | [],c,h=>by simp at h
 | b :: V,0,h=>by
  obtain rfl:=Yae h;simp [ZbU]
 | b :: V,c+1,h=>by
  have ih:=Zed (V:=V) (c:=c) (by simpa using h);unfold ZbU at ih ⊢;rw [YbA,Yby,Yby];omega
theorem ZdF (V:List Bool):ZbU V<=V.length:=List.count_le_length
theorem Zkl {V:List Bool} {c:Nat} (hc:c<V.length) (h:ZbU V=0):V.getD c false=true:=by
 have h1:=List.count_eq_zero.1 h;rw [Yam,Yaa hc];cases hb:V[c] with
 | true=>rfl
 | false=>exact absurd (hb ▸ Ycc hc) h1
theorem Zdu (es:List Ent):∀ (f:Nat) (s:List Bool × List Nat) (c:Nat),(Zas es f s c).1.length=s.1.length/\ZbU (Zas es f s c).1<=ZbU s.1
 | 0,s,c=>⟨rfl,Yac _⟩
 | f+1,s,c=>by
  have ih:=Zdu es f;have fold:∀ (l:List Nat) (s:List Bool × List Nat),(l.foldl (Zas es f) s).1.length=s.1.length/\ZbU (l.foldl (Zas es f) s).1<=ZbU s.1:=by
   intro l;induction l with
   | nil=>intro s;exact ⟨rfl,Yac _⟩
   | cons d l ihl=>
    intro s;have h1:=ihl (Zas es f s d);have h2:=ih s d;rw [YaK];exact ⟨h1.1.trans h2.1,Yaq h1.2 h2.2⟩
  unfold Zas;split
  ·exact ⟨rfl,Yac _⟩
  ·have h1:=fold (parE es c) (s.1.set c true,s.2);refine ⟨by rw [h1.1];simp,Yaq h1.2 ?_⟩;show ZbU (s.1.set c true)<=ZbU s.1
   cases hc:s.1[c]? with
   | none=>rw [List.set_eq_of_length_le (by rw [List.getElem?_eq_none_iff] at hc;exact hc)];exact Yac _
   | some b=>
    cases b with
    | true=>
     have:s.1.set c true=s.1:=by
      apply Yb3
      intro i;by_cases h:i=c
      ·subst h;rw [Ybv (Yag.1 hc).1,hc]
      ·rw [Ybt (fun q=>h q.symm)]
     rw [this];exact Yac _
    | false=>have:=Zed hc;omega
def Zb1 (es:List Ent) (n:Nat):List Nat:=((List.range n).foldl (Zas es n) (List.replicate n false,[])).2
abbrev Zdg (b3 b4 b5:Nat):Array Value:=#[.pointer (some ⟨b4,0,none⟩),.pointer (some ⟨b5,0,none⟩),.pointer (some ⟨b3,0,none⟩)]
structure PfS (lo0 b3 b4 b5 gv lo:Nat):Prop where
 l3:lo0<=b3
 l4:lo0<=b4
 l5:lo0<=b5
 lg:lo0<=gv
 u3:b3<lo
 u4:b4<lo
 u5:b5<lo
 ug:gv<lo
 n34:b3 ≠ b4
 n35:b3 ≠ b5
 n3g:b3 ≠ gv
 n45:b4 ≠ b5
 n4g:b4 ≠ gv
 n5g:b5 ≠ gv
structure Pf (B:Nat->Nat) (w0:World) (b3 b4 b5 gv lo n:Nat) (V:List Bool) (O:List Nat) (ov:Value) (us:List Value) (W:World):Prop where
 box3:Box W b3 #[ov] 88
 box4:Box W b4 #[.slice (some ⟨gv,0,none⟩) n n] 91
 box5:Box W b5 #[.func (.func 109) #[] (Zdg b3 b4 b5)] 121
 row:MRow W gv n 4 (V.map .bool)
 ord:TRow 1 94 (EntP B) lo W ov O us
 bel:Below w0.heap.size w0 W
 low:lo<=W.heap.size
def VisG (B:Nat->Nat) (w0:World) (b3 b4 b5 gv lo n:Nat) (s:List Bool × List Nat) (e:Ending) (w':World):Prop:=e=.returned (.bool false)/\∃ ov us,Pf B w0 b3 b4 b5 gv lo n s.1 s.2 ov us w'
theorem Pf.drew {B:Nat->Nat} {w0:World} {b3 b4 b5 gv lo n:Nat} {V:List Bool} {O:List Nat} {ov:Value} {us:List Value} {W:World} (h:Pf B w0 b3 b4 b5 gv lo n V O ov us W):Pf B w0 b3 b4 b5 gv lo n V O ov us W.drew:=by
 have hb:Below W.heap.size W W.drew:=Zab (Yab _ _);have ho:=Yad (S:=fun _=>False) hb;exact ⟨h.box3.below hb,h.box4.below hb,h.box5.below hb,h.row.keep ho id,h.ord.below (EntP.st B) hb,h.bel.trans (hb.mono h.bel.size),Yaq h.low hb.size⟩
theorem Zjk {V:List Bool} {c:Nat} (hc:c<V.length):(V.map Value.bool)[c]? = some (.bool (V.getD c false)):=by
 rw [Yau,Yam,Yaa hc];rfl
theorem Pf.mark {B:Nat->Nat} {w0:World} {b3 b4 b5 gv lo n:Nat} {V:List Bool} {O:List Nat} {ov:Value} {us:List Value} {W:World} (h:Pf B w0 b3 b4 b5 gv lo n V O ov us W) (q:PfS w0.heap.size b3 b4 b5 gv lo) (c:Nat) :
  Pf B w0 b3 b4 b5 gv lo n (V.set c true) O ov us (W.setCell ⟨gv,c,none⟩ (.bool true)):=by
 have ho:Only (fun k=>k=gv) W (W.setCell ⟨gv,c,none⟩ (.bool true)):=(Yan (fun k=>k=gv) W).setCell (p:=⟨gv,c,none⟩) rfl _;refine ⟨h.box3.keep ho q.n3g,h.box4.keep ho q.n4g,h.box5.keep ho q.n5g,?_,h.ord.past (EntP.st B) ho (fun k hk e=>by have:=q.ug;omega),h.bel.trans (ho.below h.bel.size (fun k (e:k=gv)=>by have:=q.lg;omega)),Yaq h.low ho.size⟩;have:=h.row.set c (.bool true);rw [List.map_set];exact this
theorem Pf.vlen {B:Nat->Nat} {w0:World} {b3 b4 b5 gv lo n:Nat} {V:List Bool} {O:List Nat} {ov:Value} {us:List Value} {W:World} (h:Pf B w0 b3 b4 b5 gv lo n V O ov us W):V.length=n:=by
 have:=h.row.len
 rwa [Yaz] at this
theorem Zf7 {es:List Ent} (hpar:∀ c,∀ d ∈ parE es c,d<es.length):∀ (f:Nat) (s:List Bool × List Nat) (c:Nat),s.1.length=es.length->c<es.length->(Zas es f s c).2.length+ZbU (Zas es f s c).1<=s.2.length+ZbU s.1
 | 0,s,c,_,_=>Yac _
 | f+1,s,c,hs,hc=>by
  have ih:=Zf7 hpar f;have fold:∀ (l:List Nat) (s:List Bool × List Nat),s.1.length=es.length->(∀ d ∈ l,d<es.length)->(l.foldl (Zas es f) s).2.length+ZbU (l.foldl (Zas es f) s).1<=s.2.length+ZbU s.1:=by
   intro l;induction l with
   | nil=>intro s _ _;exact Yac _
   | cons d l ihl=>
    intro s h1 h2;rw [YaK];exact Yaq (ihl (Zas es f s d) (((Zdu es f s d).1).trans h1) (fun x hx=>h2 x (Yap _ hx))) (ih s d h1 (h2 d Yal))
  unfold Zas;split
  ·exact Yac _
  ·rename_i hv
   have h1:=fold (parE es c) (s.1.set c true,s.2) (by simp [hs]) (hpar c);have h2:s.1[c]? = some false:=by
    rw [Yaa (by omega)];refine Ya5 some ?_;cases hb:s.1[c] with
    | false=>rfl
    | true=>exact absurd (by rw [Yam,Yaa (by omega),hb];rfl) hv
   have h3:=Zed h2;dsimp only at h1 ⊢;rw [Yak];simp only [Yb9];omega
theorem ZfP (es:List Ent) (f:Nat):∀ (l:List Nat) (s:List Bool × List Nat),(l.foldl (Zas es f) s).1.length=s.1.length/\ZbU (l.foldl (Zas es f) s).1<=ZbU s.1
 | [],s=>⟨rfl,Yac _⟩
 | d :: l,s=>by
  have h1:=ZfP es f l (Zas es f s d);have h2:=Zdu es f s d;rw [YaK];exact ⟨h1.1.trans h2.1,Yaq h1.2 h2.2⟩
theorem ZdC {es:List Ent} (hpar:∀ c,∀ d ∈ parE es c,d<es.length) (f:Nat):∀ (l:List Nat) (s:List Bool × List Nat),s.1.length=es.length->(∀ d ∈ l,d<es.length)->(l.foldl (Zas es f) s).2.length+ZbU (l.foldl (Zas es f) s).1<=s.2.length+ZbU s.1
 | [],s,_,_=>Yac _
 | d :: l,s,h1,h2=>by
  rw [YaK];exact Yaq (ZdC hpar f l (Zas es f s d) (((Zdu es f s d).1).trans h1) (fun x hx=>h2 x (Yap _ hx))) (Zf7 hpar f s d h1 (h2 d Yal))
theorem Zdd {α β:Type} (g:α->β->α) {l:List β} {k:Nat} {x:β} (hx:l[k]? = some x) (s:α):(l.take (k+1)).foldl g s=g ((l.take k).foldl g s) x:=by
 rw [YaL,hx,Ya8];rfl
theorem Zjt {α:Type} {l:List α} {k:Nat} {P:α->Prop} (h:∀ x ∈ l,P x):∀ x ∈ l.take k,P x:=fun x hx=>h x (Ybh hx)
theorem Zlo {A:Nat->Prop} {B:Nat->Nat} {T mb:Nat} {es:List Ent} {w0:World} (hT:Tab A w0 T mb B es) {b3 b4 b5 gv lo:Nat} (hq:PfS w0.heap.size b3 b4 b5 gv lo) (hlen:es.length<=1048576) (f c:Nat) (e:Ent) (he:es[c]? = some e) (hlk:e.lk.length<=9223372036854775807)
  (hpar:∀ c,∀ d ∈ parE es c,d<es.length)
  (ih:∀ (V:List Bool) (O:List Nat) (ov:Value) (us:List Value) (d:Nat) (W:World),d<es.length->ZbU V<=f->O.length+ZbU V<=es.length->Pf B w0 b3 b4 b5 gv lo es.length V O ov us W->Calls Tryz.prog 109 (#[entV B d]++Zdg b3 b4 b5) W (VisG B w0 b3 b4 b5 gv lo es.length (Zas es f (V,O) d)))
  (V:List Bool) (O:List Nat) (ov:Value) (us:List Value) (W:World) (hleft:ZbU V<=f+1) (hcap:O.length+ZbU V<=es.length) (hP:Pf B w0 b3 b4 b5 gv lo es.length V O ov us W) :
  Calls Tryz.prog 109 (#[entV B c]++Zdg b3 b4 b5) W (VisG B w0 b3 b4 b5 gv lo es.length (Zas es (f+1) (V,O) c)):=by
 have hcl:=(Yag.1 he).1;obtain ⟨n,hn⟩:∃ n,n=es.length:=⟨_,rfl⟩
 have HT:=Hd hT;have HE:=Hd he;have HP:=Hd hP;have HQ:=Hd hq;have hVl:=hP.vlen;have hBc:∀ W,Below w0.heap.size w0 W->W.cell? ⟨B c,0,none⟩=some (.int .i64 c):=fun W hW=>by
  obtain ⟨_,_,_,_,hb,_,_,_,_⟩:=(HT.o.below hW).ent c e he;exact hb.cell 0 rfl
 have HBC:=Hd hBc;obtain ⟨v,hv⟩:∃ v,v=V.getD c false:=⟨_,rfl⟩
 have hVc:V[c]? = some v:=by
  rw [hv,Yam,Yaa (by rw [hVl];exact hcl)];rfl
 have hS:∀ W,Below w0.heap.size w0 W->Pf B w0 b3 b4 b5 gv lo es.length V O ov us W->W.cell? ⟨b4,0,none⟩=some (.slice (some ⟨gv,0,none⟩) n n)/\W.cell? ⟨B c,0,none⟩=some (.int .i64 c)/\W.cell? ⟨gv,c,none⟩=some (.bool v):=fun W hW h=>
  ⟨by rw [hn];exact h.box4.cell 0 rfl,hBc W hW,by rw [h.row.at_ c hcl,Zjk (by rw [hVl];exact hcl),←hv]⟩
 have HS:=Hd (fun W hW=>hS W ((HP.o.bel).trans (YbN hW HP.o.bel.size)) (⟨HP.o.box3.below hW,HP.o.box4.below hW,HP.o.box5.below hW,HP.o.row.keep (Yad (S:=fun _=>False) hW) id,HP.o.ord.below (EntP.st B) hW,HP.o.bel.trans (YbN hW HP.o.bel.size),Yaq HP.o.low hW.size⟩:Pf B w0 b3 b4 b5 gv lo es.length V O ov us W));have h0:Below W.heap.size W W:=Yab _ _;obtain ⟨g1,g2,g3⟩:=HS.o W h0;have hc0:(0:Int)<=(c:Int):=by omega
 have hcn:(c:Int)<(n:Int):=by rw [hn];omega
 have HPAR:=Hd hpar;have HIH:=Hd ih;have HLEFT:=Hd hleft;have HVC:=Hd hVc;have HV:=Hd hv;have HCL:=Hd hcl;have HLEN:=Hd hlen;have HLK:=Hd hlk;have HCAP:=Hd hcap;have HN:=Hd hn;clear hT hq he hlk hpar ih hleft hP hBc hVc hS hVl hv hcl hlen hn hcap;cases v with
 | true=>
  go_enter Tryz.func109,Tryz.ntmps109
  go_upto_region 1 with fail
  first
  | (go_region_held (fun W=>W.cell? ⟨b4,0,none⟩=some (.slice (some ⟨gv,0,none⟩) n n)/\W.cell? ⟨B c,0,none⟩=some (.int .i64 c)/\W.cell? ⟨gv,c,none⟩=some (.bool true))
    ((refine HS.o _ ?_;(repeat (first|(with_reducible exact Yab _ _)|(with_reducible assumption)|(with_reducible refine Zab ?_))))) (fail))
  | fail
  all_goals
   clear g1 g2 g3;go_wp2;go_ret;refine ⟨rfl,ov,us,?_⟩;have e1:Zas es (f+1) (V,O) c=(V,O):=by
    unfold Zas;rw [YaC HV.o.symm]
   rw [e1];exact HP.o.drew
 | false=>
  go_enter Tryz.func109,Tryz.ntmps109
  go_upto_region 1 with fail
  first
  | (go_region_held (fun W=>W.cell? ⟨b4,0,none⟩=some (.slice (some ⟨gv,0,none⟩) n n)/\W.cell? ⟨B c,0,none⟩=some (.int .i64 c)/\W.cell? ⟨gv,c,none⟩=some (.bool false))
    ((refine HS.o _ ?_;(repeat (first|(with_reducible exact Yab _ _)|(with_reducible assumption)|(with_reducible refine Zab ?_))))) (fail))
  | fail
  all_goals
   clear g1 g2 g3;have HP1:=Hd HP.o.drew;obtain ⟨k1,k2,k3⟩:=HS.o _ (Zab h0);have fr:=HP1.o.row.free c;clear HS h0 HP
   go_upto_region 2 with fail
   go_region
   all_goals
    have hm:Pf B w0 b3 b4 b5 gv lo es.length (V.set c true) O ov us ((W.setCell ⟨gv,c,none⟩ (.bool true)).drew.drew):=(HP1.o.mark HQ.o c).drew;clear k1 k2 k3 fr HP1
    go_upto_region 3 with fail
    refine Zav (Pf B w0 b3 b4 b5 gv lo es.length (V.set c true) O ov us) hm ?_;intro W2 hP2;clear hm;have hparE:=ZcK HE.o;have hleft1:ZbU (V.set c true)+1=ZbU V:=Zed HVC.o;have hVl2:(V.set c true).length=es.length:=hP2.vlen;have hmem:∀ d ∈ e.par,d<es.length:=fun d hd=>HPAR.o c d (by rw [hparE];exact hd)
    have hsteps:Zic B 109 (Zdg b3 b4 b5) e.par (fun k W=>∃ ov us,Pf B w0 b3 b4 b5 gv lo es.length ((e.par.take k).foldl (Zas es f) (V.set c true,O)).1 ((e.par.take k).foldl (Zas es f) (V.set c true,O)).2 ov us W) (fun _ _=>False):=by
     intro k x W3 hx ⟨ov3,us3,hP3⟩;have hxl:=hmem x (Yaf hx);have hm3:=ZfP es f (e.par.take k) (V.set c true,O);have hc3:=ZdC HPAR.o f (e.par.take k) (V.set c true,O) hVl2 (Zjt hmem);refine (HIH.o _ _ ov3 us3 x W3 hxl ?_ ?_ hP3).mono ?_
     ·have h1:=hm3.2;have h2:=HLEFT.o;dsimp only at h1;omega
     ·have h2:=HCAP.o;dsimp only at hc3;omega
     ·rintro e4 w4 ⟨rfl,ov4,us4,hP4⟩;refine ⟨false,rfl,(fun h=>by cases h),fun _=>⟨ov4,us4,?_⟩⟩;rw [Zdd (Zas es f) hx];exact hP4
    have hc5:W2.cell? ⟨b5,0,none⟩=some (.func (.func 109) #[] (Zdg b3 b4 b5)):=hP2.box5.cell 0 rfl;have HPC:=Hd (Zfq HT.o 109 (Zdg b3 b4 b5) c e HE.o _ _ W2 (fun _ _=>rfl) (fun k w' ⟨_,_,h⟩=>h.bel) ⟨ov,us,hP2⟩ hsteps HLK.o);have hcapE:(e.par.foldl (Zas es f) (V.set c true,O)).2.length+1<=es.length:=by
     have h1:=ZdC HPAR.o f e.par (V.set c true,O) hVl2 hmem;have h2:=HCAP.o;dsimp only at h1;omega
    have HCE:=Hd hcapE;have HPE:=Hd hparE;clear hsteps hparE hleft1 hVl2 hmem hP2 hcapE
    go_wp2_with fail
    refine HPC.o.mono ?_;rintro e5 w5 ⟨b,rfl,hy,hno⟩;cases b with
    | true=>obtain ⟨_,_,h⟩:=hy rfl;exact h.elim
    | false=>
     obtain ⟨ov5,us5,hP5⟩:=hno rfl;rw [YaJ] at hP5;have e6:Zas es (f+1) (V,O) c=((e.par.foldl (Zas es f) (V.set c true,O)).1,(e.par.foldl (Zas es f) (V.set c true,O)).2++[c]):=by
      rw [Zas];rw [Yas (by rw [←HV.o];decide),HPE.o]
     have HE6:=Hd e6;clear hy hno e6 hc5 HPC;generalize e.par.foldl (Zas es f) (V.set c true,O)=t at hP5 HCE HE6;obtain ⟨V5,O5⟩:=t;dsimp only at hP5 HCE HE6;obtain ⟨j0,hji,hz0,hz1,hz2⟩:=info_parts Zea;obtain ⟨ao,cp,rfl⟩:=hP5.ord.shape;have c3:=hP5.box3.cell 0 rfl;have hbA:Below w5.heap.size w5 (w5.alloc (.cells #[.pointer (some ⟨B c,0,none⟩)] 94)):=(Yab _ w5).alloc (Yac _) _;have HRW:=Hd (hP5.ord.below (EntP.st B) hbA);have HNW:=Hd (Box.new w5 #[.pointer (some ⟨B c,0,none⟩)] 94);have HB3:=Hd (hP5.box3.below hbA);have HB4:=Hd (hP5.box4.below hbA);have HB5:=Hd (hP5.box5.below hbA);have HR5:=Hd (hP5.row.keep (Yad (S:=fun _=>False) hbA) id);have HLO:=Hd (Yaq hP5.low hbA.size);have HBL:=Hd (hP5.bel.trans (hbA.mono hP5.bel.size));obtain ⟨m,hm⟩:∃ m,m=O5.length:=⟨_,rfl⟩
     have HRO:=Hd HRW.o.row;rw [←hm] at HRO c3;have HM:=Hd hm;have hml:m<=1048576:=by have:=HCE.o;have:=HLEN.o;omega
     clear hbA hP5 hm
     go_wp2_with (at_builtin;refine Zbd _ rfl _ _ 88 rfl 94 j0 (.pointer none) 1 8 Tryz.underlying88 hji hz0 hz1 hz2 rfl (by decide) _ _ _ rfl HRO.o ⟨w5.heap.size,0,none⟩ 1 1 [.pointer (some ⟨B c,0,none⟩)] rfl rfl (by intro j q hj;rw [Ybo,Ybc];exact HNW.o.cell j (by rw [←hj];simp)) (by intro q hq;simp at hq;rcases hq with rfl;rfl) ?c3 ?c4 ?_)
     case c3=>unfold maxLen;omega
     case c4=>omega
     intro v' w6 hown' hgrow;have hg':Grew (w5.alloc (.cells #[.pointer (some ⟨B c,0,none⟩)] 94)) (.slice ao O5.length cp) w6 v':=by rw [←HM.o];exact hgrow
     have ir6:=HRW.o.snoc (EntP.st B) hg' HLO.o (x:=c) (u:=.pointer (some ⟨B c,0,none⟩)) rfl rfl (by rw [←HM.o];exact hown');have off:∀ k,k<lo->¬ (Value.slice ao O5.length cp).ownBlock=some k:=fun k hk q=>by have:=HRW.o.own _ q;omega
     have x3:=HB3.o.keep hg'.only (off _ HQ.o.u3);have x4:=HB4.o.keep hg'.only (off _ HQ.o.u4);have x5:=HB5.o.keep hg'.only (off _ HQ.o.u5);have r6:=HR5.o.keep hg'.only (off _ HQ.o.ug);have hb6:=HBL.o.trans (hg'.only.below HBL.o.size (fun g hg=>by have h1:=HRW.o.own g hg;have h2:=HQ.o.l3;have h3:=HQ.o.u3;omega));have hl6:=Yaq HLO.o hg'.only.size;obtain ⟨ao6,cp6,hv6⟩:=ir6.shape;obtain ⟨m2,hm2⟩:∃ m2,m2=(O5++[c]).length:=⟨_,rfl⟩
     rw [←hm2] at hv6;subst hv6;clear hm2;have c36:w6.cell? ⟨b3,0,none⟩=some (.slice ao m cp):=by rw [HM.o];exact x3.cell 0 rfl
     have f36:=x3.free 0;have X3:=Hd x3;have X4:=Hd x4;have X5:=Hd x5;have R6:=Hd r6;have IR6:=Hd ir6;have BL6:=Hd hb6;have LO6:=Hd hl6;clear x3 x4 x5 r6 ir6 hb6 hl6 hgrow hown' hg' off c3;go_wp2;go_ret;rw [HE6.o];have ho:Only (fun k=>k=b3) w6 (w6.setCell ⟨b3,0,none⟩ (.slice ao6 m2 cp6)):=(Yan (fun k=>k=b3) w6).setCell (p:=⟨b3,0,none⟩) rfl _;have hl3:=HQ.o.l3;have hu3:=HQ.o.u3;exact ⟨rfl,_,_,⟨X3.o.set 0 _,X4.o.keep ho (fun q=>HQ.o.n34 q.symm),X5.o.keep ho (fun q=>HQ.o.n35 q.symm),R6.o.keep ho (fun q=>HQ.o.n3g q.symm),IR6.o.past (EntP.st B) ho (fun k hk (q:k=b3)=>by omega),BL6.o.trans (ho.below BL6.o.size (fun k (q:k=b3)=>by omega)),Yaq LO6.o ho.size⟩⟩
theorem Zlp {A:Nat->Prop} {B:Nat->Nat} {T mb:Nat} {es:List Ent} {w0:World} (hT:Tab A w0 T mb B es) {b3 b4 b5 gv lo:Nat} (c:Nat) (hc:c<es.length)
  (V:List Bool) (O:List Nat) (ov:Value) (us:List Value) (W:World) (hv:V.getD c false=true) (hP:Pf B w0 b3 b4 b5 gv lo es.length V O ov us W) :
  Calls Tryz.prog 109 (#[entV B c]++Zdg b3 b4 b5) W (VisG B w0 b3 b4 b5 gv lo es.length (V,O)):=by
 obtain ⟨e,he⟩:∃ e,es[c]? = some e:=⟨_,Yaa hc⟩
 obtain ⟨n,hn⟩:∃ n,n=es.length:=⟨_,rfl⟩
 have HP:=Hd hP;have hVl:=hP.vlen;have HS:Hid (∀ W',Below W.heap.size W W'->W'.cell? ⟨b4,0,none⟩=some (.slice (some ⟨gv,0,none⟩) n n)/\W'.cell? ⟨B c,0,none⟩=some (.int .i64 c)/\W'.cell? ⟨gv,c,none⟩=some (.bool true)):=Hd (fun W' hW=>by
  obtain ⟨_,_,_,_,hb,_,_,_,_⟩:=(hT.below (hP.bel.trans (YbN hW hP.bel.size))).ent c e he;refine ⟨by rw [hn];exact (hP.box4.below hW).cell 0 rfl,hb.cell 0 rfl,?_⟩;rw [(hP.row.keep (Yad (S:=fun _=>False) hW) id).at_ c hc,Zjk (by rw [hVl];exact hc),hv])
 have h0:Below W.heap.size W W:=Yab _ _;obtain ⟨g1,g2,g3⟩:=HS.o W h0;have hc0:(0:Int)<=(c:Int):=by omega
 have hcn:(c:Int)<(n:Int):=by rw [hn];omega
 clear hT he hP hVl hv hn hc;go_enter Tryz.func109,Tryz.ntmps109
 go_upto_region 1 with fail
 first
 | (go_region_held (fun W=>W.cell? ⟨b4,0,none⟩=some (.slice (some ⟨gv,0,none⟩) n n)/\W.cell? ⟨B c,0,none⟩=some (.int .i64 c)/\W.cell? ⟨gv,c,none⟩=some (.bool true))
   ((refine HS.o _ ?_;(repeat (first|(with_reducible exact Yab _ _)|(with_reducible assumption)|(with_reducible refine Zab ?_))))) (fail))
 | fail
 all_goals
  clear g1 g2 g3;go_wp2;go_ret;exact ⟨rfl,ov,us,HP.o.drew⟩
theorem Zh8 {A:Nat->Prop} {B:Nat->Nat} {T mb:Nat} {es:List Ent} {w0:World} (hT:Tab A w0 T mb B es) {b3 b4 b5 gv lo:Nat} (hq:PfS w0.heap.size b3 b4 b5 gv lo) (hlen:es.length<=1048576) (hlk:∀ (i:Nat) (e:Ent),es[i]? = some e->e.lk.length<=9223372036854775807)
  (hpar:∀ c,∀ d ∈ parE es c,d<es.length):∀ (f:Nat) (V:List Bool) (O:List Nat) (ov:Value) (us:List Value) (d:Nat) (W:World),d<es.length->ZbU V<=f->O.length+ZbU V<=es.length->Pf B w0 b3 b4 b5 gv lo es.length V O ov us W->
   Calls Tryz.prog 109 (#[entV B d]++Zdg b3 b4 b5) W (VisG B w0 b3 b4 b5 gv lo es.length (Zas es f (V,O) d))
 | 0,V,O,ov,us,d,W,hd,hl,_,hP=>Zlp hT d hd V O ov us W (Zkl (by rw [hP.vlen];exact hd) (by omega)) hP
 | f+1,V,O,ov,us,d,W,hd,hl,hc,hP=>Zlo hT hq hlen f d es[d] (Yaa hd) (hlk d _ (Yaa hd)) hpar (Zh8 hT hq hlen hlk hpar f) V O ov us W hl hc hP
theorem Ze7:(Tryz.prog.info? 4).map (fun i=>(i.zero,i.size,i.bytes))=some (some (.bool false),1,1):=by kernel_rfl
def Zpg (B:Nat->Nat) (es:List Ent) (w:World) (e:Ending) (w':World):Prop:=∃ ov,e=.returned ov/\Src 1 (EntP B) (fun k=>w.heap.size<=k) w' ov (Zb1 es es.length)/\Below w.heap.size w w'
theorem Zmb {A:Nat->Prop} {B:Nat->Nat} {T mb:Nat} {es:List Ent} (w:World) (hT:Tab A w T mb B es) (hlen:es.length<=1048576) (hlk:∀ (i:Nat) (e:Ent),es[i]? = some e->e.lk.length<=9223372036854775807)
  (hpar:∀ c,∀ d ∈ parE es c,d<es.length) (g:Nat) (hrow:MRow w g es.length 94 ((List.range es.length).map (entV B))) :
  Calls Tryz.prog 49 #[.slice (some ⟨g,0,none⟩) es.length es.length] w (Zpg B es w):=by
 obtain ⟨j0,hji,hz0,hz1,hz2⟩:=info_parts Ze7;have hmk:=fun W=>Zcf (P:=Tryz.prog) 91 4 j0 (.bool false) Tryz.underlying91 hji hz0 hz1 rfl es.length (by rw [hz2];omega) (by unfold maxLen;omega) W
 have HMK:=Hd hmk;have HV:=Hd (fun b3 b4 b5 gv lo hq=>Zh8 (b3:=b3) (b4:=b4) (b5:=b5) (gv:=gv) (lo:=lo) hT hq hlen hlk hpar es.length);obtain ⟨n,hn⟩:∃ n,n=es.length:=⟨_,rfl⟩
 have HN:=Hd hn;have HNB:Hid (n<=1048576):=Hd (by rw [hn];exact hlen);have HROW:=Hd hrow;have HPAR:=Hd hpar;rw [←hn] at HROW ⊢;have hb1:Below w.heap.size w (w.alloc (.cells #[.slice none 0 0] 88)):=(Yab _ w).alloc (Yac _) _;obtain ⟨w2,hmk2,hrow2,hb2⟩:=HMK.o (w.alloc (.cells #[.slice none 0 0] 88));rw [←hn] at hmk2 hrow2;clear hji hz0 hz1 hz2 hmk hlen hlk hpar hrow hT hn;go_enter Tryz.func49,Tryz.ntmps49
 go_upto_region 4 with fail
 have hz2:((w2.alloc (.cells #[.slice (some ⟨w.heap.size+1,0,none⟩) n n] 91)).alloc (.cells #[.nilFunc] 121)).heap.size=w2.heap.size+2:=by simp
 have X5:=Hd (Zg3 (W:=w2.alloc (.cells #[.slice (some ⟨w.heap.size+1,0,none⟩) n n] 91)) (b:=w2.heap.size+1) (cs:=#[.nilFunc]) (t:=121) (by simp));have X4:=Hd ((Box.new w2 #[.slice (some ⟨w.heap.size+1,0,none⟩) n n] 91).below ((Yab _ _).alloc (Yac _) (.cells #[.nilFunc] 121)));have hb3:Below w2.heap.size w2 ((w2.alloc (.cells #[.slice (some ⟨w.heap.size+1,0,none⟩) n n] 91)).alloc (.cells #[.nilFunc] 121)):=((Yab _ w2).alloc (Yac _) _).alloc (by simp) _;have hs1:(w.alloc (.cells #[.slice none 0 0] 88)).heap.size=w.heap.size+1:=by simp
 have hx3:=(Box.new w #[.slice none 0 0] 88).below hb2;have X3:=Hd (hx3.below hb3);have XR:=Hd (hrow2.keep (Yad (S:=fun _=>False) hb3) id);have hb12:=hb1.trans (hb2.mono hb1.size);have HB3:=Hd (hb12.trans (hb3.mono hb12.size));have HS2:Hid (w.heap.size+2<=w2.heap.size):=Hd (by have:=hrow2.lt;rw [hs1] at this;omega);rw [hs1] at XR;clear hb1 hb2 hb3 hx3 hb12 hrow2 hmk2 HMK hs1;generalize hW:(w2.alloc (.cells #[.slice (some ⟨w.heap.size+1,0,none⟩) n n] 91)).alloc (.cells #[.nilFunc] 121)=W3 at X5 X4 X3 XR HB3 hz2 ⊢;clear hW;have c5:=X5.o.cell 0 rfl;have f5:=X5.o.free 0;generalize w2.heap.size=r at X4 X5 HS2 hz2 c5 f5 ⊢;have HZ:=Hd hz2;clear hz2;have hPf:Pf B w w.heap.size r (r+1) (w.heap.size+1) (r+2) es.length (List.replicate n false) [] (.slice none 0 0) [] (W3.setCell ⟨r+1,0,none⟩ (.func (.func 109) #[] (Zdg w.heap.size r (r+1)))):=by
  have ho:Only (fun k=>k=r+1) W3 (W3.setCell ⟨r+1,0,none⟩ (.func (.func 109) #[] (Zdg w.heap.size r (r+1)))):=(Yan (fun k=>k=r+1) W3).setCell (p:=⟨r+1,0,none⟩) rfl _;have hs:=HS2.o;have hbW:=HB3.o;refine ⟨X3.o.keep ho (fun q=>by omega),?_,X5.o.set 0 _,?_,TRow.nil _ _,hbW.trans (ho.below hbW.size (fun k (q:k=r+1)=>by omega)),?_⟩
  ·rw [←HN.o];exact X4.o.keep ho (fun q=>by omega)
  ·rw [Yck,←HN.o];exact XR.o.keep ho (fun q=>by omega)
  ·rw [World.size_setCell,HZ.o];exact Yac _
 have hq:PfS w.heap.size w.heap.size r (r+1) (w.heap.size+1) (r+2):=by
  have hs:=HS2.o;constructor <;> omega
 have HQ:=Hd hq;have HPF:=Hd hPf;have HBE:Hid (Below w.heap.size w (W3.setCell ⟨r+1,0,none⟩ (.func (.func 109) #[] (Zdg w.heap.size r (r+1))))):=Hd (HB3.o.setCell (p:=⟨r+1,0,none⟩) (by have:=HS2.o;show w.heap.size<=r+1;omega) _);clear hq hPf
 go_upto_region 5 with fail
 refine Zav (fun W=>∃ ov us,Pf B w w.heap.size r (r+1) (w.heap.size+1) (r+2) es.length (List.replicate n false) [] ov us W) ⟨_,_,HPF.o⟩ ?_;rintro W4 ⟨ov4,us4,hp4⟩;have HP4:=Hd hp4;clear hp4 HPF HBE X3 X4 X5 XR HB3 HZ c5 f5;have hnb:n<=1048576:=HNB.o;go_wp2
 go_loopw [14] (fun v14 wr=>∃ (k:Nat) (ov:Value) (us:List Value),k<=n/\v14=.int .i64 k/\Pf B w w.heap.size r (r+1) (w.heap.size+1) (r+2) es.length (((List.range es.length).take k).foldl (Zas es es.length) (List.replicate n false,[])).1 (((List.range es.length).take k).foldl (Zas es es.length) (List.replicate n false,[])).2 ov us wr) (fun v14 _=>n - (intOf v14).toNat)
 case atStart=>exact ⟨0,ov4,us4,Yai _,rfl,HP4.o⟩
 case round=>
  obtain ⟨k,ov,us,hk,rfl,hp⟩:=hrel;have HP:=Hd hp;clear hp;by_cases hlt:k<n
  ·have c0:wr.cell? ⟨g,k,none⟩=some (entV B k):=by
    rw [(HROW.o.keep (Yad (S:=fun _=>False) HP.o.bel) id).at_ k hlt,Yau,Ybl (by first|exact hlt|(rw [←HN.o];exact hlt))];rfl
   have c5:wr.cell? ⟨r+1,0,none⟩=some (.func (.func 109) #[] (Zdg w.heap.size r (r+1))):=HP.o.box5.cell 0 rfl;have hk0:(0:Int)<=(k:Int):=by omega
   have hkn:(k:Int)<(n:Int):=by omega
   have hke:k<es.length:=by rw [←HN.o];exact hlt
   have hkr:(List.range es.length)[k]? = some k:=Ybl hke;have HCALL:Hid (Calls Tryz.prog 109 (#[entV B k]++Zdg w.heap.size r (r+1)) wr (VisG B w w.heap.size r (r+1) (w.heap.size+1) (r+2) es.length (((List.range es.length).take (k+1)).foldl (Zas es es.length) (List.replicate n false,[])))):=Hd (by
    rw [Zdd (Zas es es.length) hkr];have hl:=HP.o.vlen;refine HV.o w.heap.size r (r+1) (w.heap.size+1) (r+2) HQ.o _ _ ov us k wr hke (Yaq (ZdF _) (Ycu hl)) ?_ HP.o;have h1:=ZdC HPAR.o es.length ((List.range es.length).take k) (List.replicate n false,[]) (by simp [HN.o]) (fun d hd=>YbL.1 (Ybh hd));refine Yaq h1 ?_;have h2:=ZdF (List.replicate n false);rw [Ybz] at h2;have h3:=HN.o;show 0+ZbU (List.replicate n false)<=es.length
    omega)
   clear hke hkr
   go_wp2_with fail
   refine HCALL.o.mono ?_;rintro e5 w5 ⟨rfl,ov5,us5,hp5⟩;have HP5:=Hd hp5;clear hp5 HCALL c0 c5;go_wp2
   go_roundw
   case rel=>exact ⟨k+1,ov5,us5,by omega,by go_num,HP5.o⟩
   case measure=>simp [intOf];omega
  ·obtain rfl:k=n:=by omega
   have e1:(List.range es.length).take k=List.range es.length:=Yaw (by rw [Yb5,HN.o];exact Yac _);rw [e1] at HP;have hsh:=HP.o.ord.shape;obtain ⟨ao,cp,rfl⟩:=hsh;have c3:=HP.o.box3.cell 0 rfl;go_wp2;go_ret;refine ⟨_,rfl,?_,HP.o.bel⟩;have h1:=(EntP.st B).srcMono (A':=fun k=>w.heap.size<=k) (HP.o.ord.src (EntP.st B)) (fun q _ hq=>by have h2:r+2<=q:=hq;have h3:=HS2.o;show w.heap.size<=q;omega);unfold Zb1;rw [←HN.o] at h1 ⊢;exact h1
abbrev ZaX:Nat:=9223372036854775807
structure Grp where
 met:List Nat
 cnt:Nat
 opn:List Nat
 loop:List Bool
def intV (z:Nat):Value:=.int .i64 z
def ZbN (big:Bool) (s:Grp) (l:List Nat):Grp:=⟨l.foldl (fun m c=>m.set c ZaX) s.met,s.cnt,s.opn,l.foldl (fun m c=>m.set c big) s.loop⟩
def ZbS (s:Grp) (first:Nat):Grp:=
 let t:=ZbN (decide (1<(s.opn.drop first).length)) s (s.opn.drop first)
 ⟨t.met,t.cnt,s.opn.take first,t.loop⟩
structure GrS (lo0 gb gm gl lo:Nat):Prop where
 lb:lo0<=gb
 lm:lo0<=gm
 ll:lo0<=gl
 ub:gb<lo
 um:gm<lo
 ul:gl<lo
 bm:gb ≠ gm
 bl:gb ≠ gl
 ml:gm ≠ gl
structure Gr (B:Nat->Nat) (w0:World) (gb gm gl lo n:Nat) (s:Grp) (ov:Value) (us:List Value) (W:World):Prop where
 box:Box W gb #[.slice (some ⟨gm,0,none⟩) n n,.int .i64 s.cnt,ov,.slice (some ⟨gl,0,none⟩) n n] 119
 met:MRow W gm n 3 (s.met.map intV)
 loop:MRow W gl n 4 (s.loop.map .bool)
 opn:TRow 1 94 (EntP B) lo W ov s.opn us
 bel:Below w0.heap.size w0 W
 low:lo<=W.heap.size
theorem Gr.keep {B:Nat->Nat} {w0:World} {gb gm gl lo n:Nat} {s:Grp} {ov:Value} {us:List Value} {W W':World} (h:Gr B w0 gb gm gl lo n s ov us W) (hb:Below W.heap.size W W'):Gr B w0 gb gm gl lo n s ov us W':=by
 have ho:=Yad (S:=fun _=>False) hb;exact ⟨h.box.below hb,h.met.keep ho id,h.loop.keep ho id,h.opn.below (EntP.st B) hb,h.bel.trans (hb.mono h.bel.size),Yaq h.low hb.size⟩
theorem Gr.drew {B:Nat->Nat} {w0:World} {gb gm gl lo n:Nat} {s:Grp} {ov:Value} {us:List Value} {W:World} (h:Gr B w0 gb gm gl lo n s ov us W):Gr B w0 gb gm gl lo n s ov us W.drew:=h.keep (Zab (Yab _ _))
theorem Gr.note {B:Nat->Nat} {w0:World} {gb gm gl lo n:Nat} {s:Grp} {ov:Value} {us:List Value} {W:World} (h:Gr B w0 gb gm gl lo n s ov us W) (q:GrS w0.heap.size gb gm gl lo) (c z:Nat) :
  Gr B w0 gb gm gl lo n ⟨s.met.set c z,s.cnt,s.opn,s.loop⟩ ov us (W.setCell ⟨gm,c,none⟩ (intV z)):=by
 have ho:Only (fun k=>k=gm) W (W.setCell ⟨gm,c,none⟩ (intV z)):=(Yan (fun k=>k=gm) W).setCell (p:=⟨gm,c,none⟩) rfl _;refine ⟨h.box.keep ho q.bm,?_,h.loop.keep ho (fun e=>q.ml e.symm),h.opn.past (EntP.st B) ho (fun k hk (e:k=gm)=>by have:=q.um;omega),h.bel.trans (ho.below h.bel.size (fun k (e:k=gm)=>by have:=q.lm;omega)),Yaq h.low ho.size⟩;have:=h.met.set c (intV z);rw [List.map_set];exact this
theorem Gr.flag {B:Nat->Nat} {w0:World} {gb gm gl lo n:Nat} {s:Grp} {ov:Value} {us:List Value} {W:World} (h:Gr B w0 gb gm gl lo n s ov us W) (q:GrS w0.heap.size gb gm gl lo) (c:Nat) (b:Bool) :
  Gr B w0 gb gm gl lo n ⟨s.met,s.cnt,s.opn,s.loop.set c b⟩ ov us (W.setCell ⟨gl,c,none⟩ (.bool b)):=by
 have ho:Only (fun k=>k=gl) W (W.setCell ⟨gl,c,none⟩ (.bool b)):=(Yan (fun k=>k=gl) W).setCell (p:=⟨gl,c,none⟩) rfl _;refine ⟨h.box.keep ho q.bl,h.met.keep ho q.ml,?_,h.opn.past (EntP.st B) ho (fun k hk (e:k=gl)=>by have:=q.ul;omega),h.bel.trans (ho.below h.bel.size (fun k (e:k=gl)=>by have:=q.ll;omega)),Yaq h.low ho.size⟩;have:=h.loop.set c (.bool b);rw [List.map_set];exact this
theorem Zik {big:Bool} {s:Grp} {l:List Nat} {k c:Nat} (h:l[k]? = some c):ZbN big s (l.take (k+1))=⟨(ZbN big s (l.take k)).met.set c ZaX,s.cnt,s.opn,(ZbN big s (l.take k)).loop.set c big⟩:=by
 unfold ZbN;rw [Zdd (fun (m:List Nat) c=>m.set c ZaX) h,Zdd (fun (m:List Bool) c=>m.set c big) h]
theorem TRow.cut {α:Type} {n:Nat} {t:TypeId} {R:Zao α} {lo:Nat} {w:World} {g c len:Nat} {m:List α} {us:List Value} (h:TRow n t R lo w (.slice (some ⟨g,0,none⟩) len c) m us) (hl:len=m.length) (k:Nat) (hk:k<=m.length) :
  TRow n t R lo w (.slice (some ⟨g,0,none⟩) k c) (m.take k) (us.take k):=by
 subst hl;have htl:(m.take k).length=k:=by rw [Yay];omega
 refine ⟨?_,h.own,by rw [Yay,Yay,h.len],fun u hu=>h.size u (Ybh hu),fun j x hj=>?_⟩
 ·rw [htl];rcases h.row.2 with ⟨h',_⟩|⟨g',cap',cur,h',hb,hg,hnc,hcm,hcs,htake⟩
  ·simp at h'
  ·simp only [Value.slice.injEq,Yba,YbF,and_true,true_and] at h';obtain ⟨rfl,rfl⟩:=h';have hcl:ZaM (us.take k)=(ZaM us).take (k * n):=by
    have e:us=us.take k++us.drop k:=(Ya1 k us).symm;have h1:(ZaM (us.take k)).length=k * n:=by
     rw [Zcq _ (fun u hu=>h.size u (Ybh hu)),Yay,h.len];rw [Ybe hk]
    have h2:ZaM us=ZaM (us.take k)++ZaM (us.drop k):=by rw [←Zd2,Ya1]
    rw [h2,YbC (l₁:=ZaM (us.take k)) (Ycu h1.symm)];exact (Yaw (Ycu h1)).symm
   refine ⟨?_,.inr ⟨g,c,cur,rfl,hb,hg,by omega,hcm,hcs,?_⟩⟩
   ·rw [Zcq _ (fun u hu=>h.size u (Ybh hu)),Yay,h.len,Ybe hk]
   ·rw [hcl,←htake,Ycy,Ybe (Ycx n hk)]
 ·rw [YbI] at hj;split at hj
  ·rename_i hjk
   obtain ⟨u,h1,h2⟩:=h.each j x hj;exact ⟨u,by rw [YbI,YaC hjk];exact h1,h2⟩
  ·cases hj
