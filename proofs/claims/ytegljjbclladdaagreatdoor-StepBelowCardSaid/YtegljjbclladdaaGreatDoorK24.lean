/- laws -/
import Derived.Test.YtegljjbclladdaaGreatDoorK23
set_option maxRecDepth 100000
set_option maxHeartbeats 16000000
namespace Go.Proofs.YtegljjbclladdaaGreatDoor
open Go.RowKit
def FinG (B:Nat->Nat) (w0:World) (gb gm gl lo n:Nat) (s:Grp) (ov0:Value) (W:World) (e:Ending) (w':World):Prop:=e=.returned (.tuple #[])/\∃ ov us,Gr B w0 gb gm gl lo n s ov us w'/\ov.ownBlock=ov0.ownBlock/\Only (fun k=>k=gb\/k=gm\/k=gl) W w'
theorem ZlN {A:Nat->Prop} {B:Nat->Nat} {T mb:Nat} {es:List Ent} {w0:World} (hT:Tab A w0 T mb B es) {gb gm gl lo:Nat} (hq:GrS w0.heap.size gb gm gl lo) (hlen:es.length<=1048576) (s:Grp) (ov:Value) (us:List Value) (W:World) (first:Nat)
  (hs:Gr B w0 gb gm gl lo es.length s ov us W) (hf:first<s.opn.length) (hop:∀ c ∈ s.opn,c<es.length) (hol:s.opn.length<=1048576) :
  Calls Tryz.prog 140 #[.pointer (some ⟨gb,0,none⟩),.int .i64 (first:Nat)] W (FinG B w0 gb gm gl lo es.length (Zb0 s first) ov W):=by
 obtain ⟨g,cp,rfl,_,_⟩:=World.ownsRow.form hs.opn.row (Nat.lt_of_le_of_lt (Yao _) hf);obtain ⟨n,hn⟩:∃ n,n=es.length:=⟨_,rfl⟩
 obtain ⟨m,hm⟩:∃ m,m=s.opn.length:=⟨_,rfl⟩
 have hmc:m<=cp:=by
  rcases hs.opn.row.2 with ⟨h',_⟩|⟨g',cap',cur,h',hb,hg,hnc,hcm,_⟩
  ·simp at h'
  ·simp only [Value.slice.injEq,Ya1,Ybz,and_true,true_and] at h';obtain ⟨_,rfl⟩:=h';rw [hm];exact hnc
 have hcp:cp<=9223372036854775807:=by
  rcases hs.opn.row.2 with ⟨h',_⟩|⟨g',cap',cur,h',hb,hg,hnc,hcm,_⟩
  ·simp at h'
  ·simp only [Value.slice.injEq,Ya1,Ybz,and_true,true_and] at h';obtain ⟨_,rfl⟩:=h';exact hcm
 rw [←hm] at hf hol;have hs':=hs;rw [←hm,←hn] at hs';have HS:=Hd hs';have HM:=Hd hm;have HN:=Hd hn;have HQ:=Hd hq;have HT:=Hd hT;have HOP:=Hd hop;have HBC:Hid (∀ c,c<es.length->∀ W,Below w0.heap.size w0 W->W.cell? ⟨B c,0,none⟩=some (.int .i64 c)):=Hd (fun c hc W hW=>by
  obtain ⟨_,_,_,_,hb,_,_,_,_⟩:=(hT.below hW).ent c es[c] (Yaa hc);exact hb.cell 0 rfl)
 have hnb:n<=1048576:=by rw [hn];exact hlen
 have p2:W.cell? ⟨gb,2,none⟩=some (.slice (some ⟨g,0,none⟩) m cp):=hs'.box.cell 2 rfl;have hf0:(0:Int)<=(first:Int):=by omega
 have hfm:(first:Int)<=(m:Int):=by omega
 have hne:¬ cp=first:=by omega
 have hmcp:(m:Int)<=(cp:Int):=by omega
 clear hs hs' hq hT hop hm;rw [←hn];clear hn;go_enter Tryz.func140,Tryz.ntmps140
 go_wp2_with fail
 have HNE:=Hd hne;obtain ⟨L,hL⟩:∃ L,L=s.opn.drop first:=⟨_,rfl⟩
 have hLl:L.length=m - first:=by rw [hL,Ybr,←HM.o]
 have HLL:=Hd hLl;have HL:=Hd hL;have hmf:m - first<=1048576:=by omega
 obtain ⟨k0,hk0⟩:∃ k0,k0=m - first:=⟨_,rfl⟩
 have HK0:=Hd hk0;rw [←hk0] at hmf HLL ⊢;clear hL hLl hk0 p2;obtain ⟨big,hbig⟩:∃ big,big=decide (1<k0):=⟨_,rfl⟩
 have HBIG:=Hd hbig;clear hbig
 go_loopw [15] (fun v15 wr=>∃ (k:Nat),k<=k0/\v15=.int .i64 k/\Gr B w0 gb gm gl lo n (ZbW big s (L.take k)) (.slice (some ⟨g,0,none⟩) m cp) us wr/\Only (fun q=>q=gb\/q=gm\/q=gl) W wr) (fun v15 _=>k0 - (intOf v15).toNat)
 case atStart=>exact ⟨0,Yao _,rfl,HS.o,Yak _ _⟩
 case round=>
  obtain ⟨k,hk,rfl,hg,hon⟩:=hrel;have HON:=Hd hon;clear hon;by_cases hlt:k<k0
  ·obtain ⟨c,hc⟩:∃ c,L[k]? = some c:=⟨_,Yaa (by rw [HLL.o];exact hlt)⟩
   have hco:s.opn[first+k]? = some c:=by rw [←Ybo,←HL.o];exact hc
   have hcl:=HOP.o c (Yaf hco);have HC:=Hd hc;have hcn:c<n:=by rw [HN.o];exact hcl
   obtain ⟨u,hu1,hu2⟩:=hg.opn.each (first+k) c hco;obtain rfl:=hu2;have hrow:wr.cell? ⟨g,first+k,none⟩=some (entV B c):=by
    have h1:=World.ownsRow.cells hg.opn.row (g:=g) rfl (first+k) (entV B c) (by
     have h2:=ZcP us (first+k) 0 (entV B c) hg.opn.size hu1 (by decide);rw [YaH] at h2;exact h2)
    rw [Ybn,Ya6] at h1;exact h1
   have b0:=HBC.o c hcl wr hg.bel;have q0:=hg.box.cell 0 rfl;obtain ⟨z0,m0⟩:∃ z0,wr.cell? ⟨gm,c,none⟩=some z0:=⟨_,by rw [hg.met.at_ c hcn];exact Yaa (by rw [hg.met.len];exact hcn)⟩
   have f0:=hg.met.free c;have HG:=Hd hg;have hk1:(0:Int)<=(k:Int):=by omega
   have hk2:(k:Int)<(k0:Int):=by omega
   have hc1:(0:Int)<=(c:Int):=by omega
   have hc2:(c:Int)<(n:Int):=by omega
   clear hg hu1 hc hco
   go_upto_region 4 with fail
   go_region
   all_goals
    have hn1:Gr B w0 gb gm gl lo n ⟨(ZbW big s (L.take k)).met.set c Za5,s.cnt,s.opn,(ZbW big s (L.take k)).loop⟩ (.slice (some ⟨g,0,none⟩) m cp) us ((wr.setCell ⟨gm,c,none⟩ (.int .i64 9223372036854775807)).drew)/\Only (fun q=>q=gb\/q=gm\/q=gl) W ((wr.setCell ⟨gm,c,none⟩ (.int .i64 9223372036854775807)).drew):=⟨(HG.o.note HQ.o c Za5).drew,(HON.o.setCell (p:=⟨gm,c,none⟩) (.inr (.inl rfl)) _).drew⟩;clear q0 m0 f0 b0 hrow HG
    go_upto_region 5 with fail
    refine Zau (fun V=>Gr B w0 gb gm gl lo n ⟨(ZbW big s (L.take k)).met.set c Za5,s.cnt,s.opn,(ZbW big s (L.take k)).loop⟩ (.slice (some ⟨g,0,none⟩) m cp) us V/\Only (fun q=>q=gb\/q=gm\/q=gl) W V) hn1 ?_;rintro W3 ⟨hg3,hon3⟩;have HON3:=Hd hon3;clear hn1 hon3 HON;have b0:=HBC.o c hcl W3 hg3.bel;have q0:=hg3.box.cell 3 rfl;obtain ⟨z0,m0⟩:∃ z0,W3.cell? ⟨gl,c,none⟩=some z0:=⟨_,by rw [hg3.loop.at_ c hcn];exact Yaa (by rw [hg3.loop.len];exact hcn)⟩
    have f0:=hg3.loop.free c;have HG3:=Hd hg3;clear hg3
    go_region
    all_goals
     have hn2:Gr B w0 gb gm gl lo n (ZbW big s (L.take (k+1))) (.slice (some ⟨g,0,none⟩) m cp) us ((W3.setCell ⟨gl,c,none⟩ (.bool big)).drew)/\Only (fun q=>q=gb\/q=gm\/q=gl) W ((W3.setCell ⟨gl,c,none⟩ (.bool big)).drew):=by
      rw [ZjG HC.o];exact ⟨(HG3.o.flag HQ.o c big).drew,(HON3.o.setCell (p:=⟨gl,c,none⟩) (.inr (.inr rfl)) _).drew⟩
     have HN2:=Hd hn2;clear q0 m0 f0 b0 hn2 HG3 HON3;have hbb:decide ((1:Int)<(k0:Int))=big:=by
      rw [HBIG.o];exact decide_eq_decide.2 (by omega)
     rw [hbb];generalize (W3.setCell ⟨gl,c,none⟩ (.bool big)).drew=W4 at HN2 ⊢;go_wp2
     go_roundw
     case rel=>exact ⟨k+1,by omega,by go_num,HN2.o.1,HN2.o.2⟩
     case measure=>simp [intOf];omega
  ·obtain rfl:k=k0:=by omega
   have hLk:L.take k=L:=Yaz (by rw [HLL.o];exact Yad _);rw [hLk] at hg;have p2:wr.cell? ⟨gb,2,none⟩=some (.slice (some ⟨g,0,none⟩) m cp):=hg.box.cell 2 rfl;have f2:=hg.box.free 2;have HG:=Hd hg;clear hg;go_wp2
   go_end0
   have ho2:Only (fun q=>q=gb) wr (wr.setCell ⟨gb,2,none⟩ (.slice (some ⟨g,0,none⟩) first cp)):=(Yak (fun q=>q=gb) wr).setCell (p:=⟨gb,2,none⟩) rfl _;have hub:=HQ.o.ub;have hlb:=HQ.o.lb;have e1:Zb0 s first=⟨(ZbW big s L).met,s.cnt,s.opn.take first,(ZbW big s L).loop⟩:=by
    unfold Zb0;rw [←HL.o,HLL.o,←HBIG.o];rfl
   rw [e1];refine ⟨rfl,_,us.take first,⟨HG.o.box.set 2 (.slice (some ⟨g,0,none⟩) first cp),HG.o.met.keep ho2 (fun e=>HQ.o.bm e.symm),HG.o.loop.keep ho2 (fun e=>HQ.o.bl e.symm),?_,HG.o.bel.trans (ho2.below HG.o.bel.size (fun q (e:q=gb)=>by omega)),Yaj HG.o.low ho2.size⟩,rfl,HON.o.trans (ho2.mono (fun q _ h=>.inl h))⟩;exact (HG.o.opn.cut HM.o first (by show first<=s.opn.length;have:=HM.o;omega)).past (EntP.st B) ho2 (fun q hq (e:q=gb)=>by omega)
def ZbL (m:Grp->Nat->Grp × Nat) (t:Grp × Nat) (d:Nat):Grp × Nat:=
 if t.1.met.getD d 0=0 then ((m t.1 d).1,min t.2 (m t.1 d).2) else (t.1,min t.2 (t.1.met.getD d 0))
def Za0 (s:Grp) (c:Nat):Grp:=⟨s.met.set c (s.cnt+1),s.cnt+1,s.opn++[c],s.loop⟩
def Zem (s:Grp) (t:Grp × Nat):Grp × Nat:=if t.2=s.cnt+1 then (Zb0 t.1 s.opn.length,t.2) else t
def ZaW (es:List Ent):Nat->Grp->Nat->Grp × Nat
 | 0,s,_=>(s,0)
 | f+1,s,c=>Zem s ((parE es c).foldl (ZbL (ZaW es f)) (Za0 s c,s.cnt+1))
def ZaI (es:List Ent) (n:Nat):Grp:=(List.range n).foldl (fun s c=>if s.met.getD c 0=0 then (ZaW es n s c).1 else s) ⟨List.replicate n 0,0,[],List.replicate n false⟩
def Za7 (l:List Nat):Nat:=l.count 0
theorem ZiO:∀ {l:List Nat} {c z:Nat},l[c]? = some 0->z ≠ 0->Za7 (l.set c z)+1=Za7 l
 | [],c,z,h,_=>by simp at h
 | b :: l,0,z,h,hz=>by
  obtain rfl:=Yac h;unfold Za7;rw [Ybu,YbB,YbB];simp [hz]
 | b :: l,c+1,z,h,hz=>by
  have ih:=ZiO (l:=l) (c:=c) (z:=z) (by simpa using h) hz;unfold Za7 at ih ⊢;rw [YbC,YbB,YbB];omega
theorem ZiN:∀ (l:List Nat) (c z:Nat),z ≠ 0->Za7 (l.set c z)<=Za7 l
 | [],c,z,_=>by simp [Za7]
 | b :: l,0,z,hz=>by
  unfold Za7;rw [Ybu,YbB,YbB];simp [hz]
 | b :: l,c+1,z,hz=>by
  have ih:=ZiN l c z hz;unfold Za7 at ih ⊢;rw [YbC,YbB,YbB];omega
theorem ZdY (l:List Nat):Za7 l<=l.length:=List.count_le_length
theorem ZgX {l:List Nat} {c:Nat} (hc:c<l.length) (h:Za7 l=0):l.getD c 0 ≠ 0:=by
 have h1:=List.count_eq_zero.1 h;rw [Yap,Yaa hc];exact fun e=>h1 (e ▸ Ycf hc)
theorem getD_some {l:List Nat} {c:Nat} (hc:c<l.length):l[c]? = some (l.getD c 0):=by
 rw [Yap,Yaa hc];rfl
structure GI (n:Nat) (s:Grp):Prop where
 mlen:s.met.length=n
 opn:∀ c ∈ s.opn,c<n
 cnt:s.cnt+Za7 s.met<=n
 olen:s.opn.length+Za7 s.met<=n
 big:∀ z ∈ s.met,z<=Za5
theorem ZjF (big:Bool) (s:Grp):∀ (l:List Nat),Za7 (ZbW big s l).met<=Za7 s.met/\(ZbW big s l).met.length=s.met.length:=by
 intro l;unfold ZbW;have go:∀ (l:List Nat) (m:List Nat),Za7 (l.foldl (fun m c=>m.set c Za5) m)<=Za7 m/\(l.foldl (fun m c=>m.set c Za5) m).length=m.length:=by
  intro l;induction l with
  | nil=>intro m;exact ⟨Yad _,rfl⟩
  | cons c l ih=>
   intro m;rw [YaM];have h1:=ih (m.set c Za5);exact ⟨Yaj h1.1 (ZiN m c Za5 (by decide)),h1.2.trans YbT⟩
 exact go l s.met
theorem Zlz (big:Bool) (s:Grp) (l:List Nat) (h:∀ z ∈ s.met,z<=Za5):∀ z ∈ (ZbW big s l).met,z<=Za5:=by
 unfold ZbW;have go:∀ (l:List Nat) (m:List Nat),(∀ z ∈ m,z<=Za5)->∀ z ∈ l.foldl (fun m c=>m.set c Za5) m,z<=Za5:=by
  intro l;induction l with
  | nil=>intro m hm;exact hm
  | cons c l ih=>
   intro m hm;rw [YaM];refine ih _ (fun z hz=>?_);rcases List.mem_or_eq_of_mem_set hz with h1|h1
   ·exact hm z h1
   ·rw [h1];exact Yad _
 exact go l s.met h
theorem GI.finish {n:Nat} {s:Grp} (h:GI n s) (first:Nat) (hf:first<=s.opn.length):GI n (Zb0 s first)/\Za7 (Zb0 s first).met<=Za7 s.met/\(Zb0 s first).opn.length=first:=by
 have h1:=ZjF (decide (1<(s.opn.drop first).length)) s (s.opn.drop first);have hl:(s.opn.take first).length=first:=by rw [YaA];omega
 refine ⟨⟨h1.2.trans h.mlen,fun c hc=>h.opn c (Ybg hc),Yaj (Nat.add_le_add_left h1.1 _) h.cnt,?_,Zlz (decide (1<(s.opn.drop first).length)) s (s.opn.drop first) h.big⟩,h1.1,hl⟩;have h2:=h.olen;show (s.opn.take first).length+Za7 (ZbW (decide (1<(s.opn.drop first).length)) s (s.opn.drop first)).met<=n
 have h3:=h1.1;omega
theorem GI.enter {n:Nat} {s:Grp} (h:GI n s) (hn:n<=1048576) {c:Nat} (hc:c<n) (h0:s.met.getD c 0=0):GI n (Za0 s c)/\Za7 (Za0 s c).met+1=Za7 s.met/\(Za0 s c).opn.length=s.opn.length+1:=by
 have h1:s.met[c]? = some 0:=by rw [getD_some (by rw [h.mlen];exact hc),h0]
 have h2:=ZiO (z:=s.cnt+1) h1 (by omega);have h3:=h.cnt;have h4:=h.olen;refine ⟨⟨by show (s.met.set c _).length=n;rw [YbT];exact h.mlen,fun d hd=>?_,?_,?_,fun z hz=>?_⟩,h2,by show (s.opn++[c]).length=_;simp⟩
 ·rcases Yaq.1 hd with hd|hd
  ·exact h.opn d hd
  ·rw [Yax.1 hd];exact hc
 ·show s.cnt+1+Za7 (s.met.set c _)<=n
  omega
 ·show (s.opn++[c]).length+Za7 (s.met.set c _)<=n
  rw [Yal];simp only [Ycb];omega
 ·rcases List.mem_or_eq_of_mem_set hz with h5|h5
  ·exact h.big z h5
  ·rw [h5];have:Za7 s.met ≥ 1:=by omega
   show s.cnt+1<=9223372036854775807
   omega
theorem Zgb {es:List Ent} {n:Nat} (hn:n<=1048576) (hpar:∀ c,∀ d ∈ parE es c,d<n):∀ (f:Nat) (s:Grp) (c:Nat),GI n s->c<n->s.met.getD c 0=0->
  GI n (ZaW es f s c).1/\Za7 (ZaW es f s c).1.met<=Za7 s.met/\s.opn.length<=(ZaW es f s c).1.opn.length/\(ZaW es f s c).2<=Za5
 | 0,s,c,h,_,_=>⟨h,Yad _,Yad _,Yao _⟩
 | f+1,s,c,h,hc,h0=>by
  have ih:=Zgb hn hpar f;have fold:∀ (l:List Nat) (t:Grp × Nat),GI n t.1->t.2<=Za5->(∀ d ∈ l,d<n)->GI n (l.foldl (ZbL (ZaW es f)) t).1/\Za7 (l.foldl (ZbL (ZaW es f)) t).1.met<=Za7 t.1.met/\t.1.opn.length<=(l.foldl (ZbL (ZaW es f)) t).1.opn.length/\(l.foldl (ZbL (ZaW es f)) t).2<=Za5:=by
   intro l;induction l with
   | nil=>intro t ht h2 _;exact ⟨ht,Yad _,Yad _,h2⟩
   | cons d l ihl=>
    intro t ht h2 hd;rw [YaM];have hdn:=hd d Yam;have hd':=fun x hx=>hd x (Yau d hx)
    by_cases hz:t.1.met.getD d 0=0
    ·obtain ⟨i1,i2,i3,i4⟩:=ih t.1 d ht hdn hz;have e:ZbL (ZaW es f) t d=((ZaW es f t.1 d).1,min t.2 (ZaW es f t.1 d).2):=by unfold ZbL;rw [Yay hz]
     rw [e];obtain ⟨j1,j2,j3,j4⟩:=ihl ((ZaW es f t.1 d).1,min t.2 (ZaW es f t.1 d).2) i1 (Yaj (Ycy _ _) h2) hd';exact ⟨j1,Yaj j2 i2,Yaj i3 j3,j4⟩
    ·have e:ZbL (ZaW es f) t d=(t.1,min t.2 (t.1.met.getD d 0)):=by unfold ZbL;rw [Yar hz]
     rw [e];exact ihl (t.1,min t.2 (t.1.met.getD d 0)) ht (Yaj (Ycy _ _) h2) hd'
  obtain ⟨e1,e2,e3⟩:=h.enter hn hc h0;have hcb:s.cnt+1<=Za5:=by have:=e1.cnt;show s.cnt+1<=9223372036854775807;have h5:(Za0 s c).cnt=s.cnt+1:=rfl;omega
  obtain ⟨f1,f2,f3,f4⟩:=fold (parE es c) (Za0 s c,s.cnt+1) e1 hcb (hpar c);dsimp only at f2 f3;unfold ZaW Zem;split
  ·obtain ⟨g1,g2,g3⟩:=f1.finish s.opn.length (by omega);exact ⟨g1,by dsimp only;omega,by dsimp only;omega,f4⟩
  ·exact ⟨f1,by omega,by omega,f4⟩
theorem Zn9 {es:List Ent} {n:Nat} (hn:n<=1048576) (hpar:∀ c,∀ d ∈ parE es c,d<n) (f:Nat):∀ (l:List Nat) (t:Grp × Nat),GI n t.1->t.2<=Za5->(∀ d ∈ l,d<n)->
  GI n (l.foldl (ZbL (ZaW es f)) t).1/\Za7 (l.foldl (ZbL (ZaW es f)) t).1.met<=Za7 t.1.met/\t.1.opn.length<=(l.foldl (ZbL (ZaW es f)) t).1.opn.length/\(l.foldl (ZbL (ZaW es f)) t).2<=Za5:=by
 intro l;induction l with
 | nil=>intro t ht h2 _;exact ⟨ht,Yad _,Yad _,h2⟩
 | cons d l ihl=>
  intro t ht h2 hd;rw [YaM];have hdn:=hd d Yam;have hd':=fun x hx=>hd x (Yau d hx)
  by_cases hz:t.1.met.getD d 0=0
  ·obtain ⟨i1,i2,i3,i4⟩:=Zgb hn hpar f t.1 d ht hdn hz;have e:ZbL (ZaW es f) t d=((ZaW es f t.1 d).1,min t.2 (ZaW es f t.1 d).2):=by unfold ZbL;rw [Yay hz]
   rw [e];obtain ⟨j1,j2,j3,j4⟩:=ihl ((ZaW es f t.1 d).1,min t.2 (ZaW es f t.1 d).2) i1 (Yaj (Ycy _ _) h2) hd';exact ⟨j1,Yaj j2 i2,Yaj i3 j3,j4⟩
  ·have e:ZbL (ZaW es f) t d=(t.1,min t.2 (t.1.met.getD d 0)):=by unfold ZbL;rw [Yar hz]
   rw [e];exact ihl (t.1,min t.2 (t.1.met.getD d 0)) ht (Yaj (Ycy _ _) h2) hd'
