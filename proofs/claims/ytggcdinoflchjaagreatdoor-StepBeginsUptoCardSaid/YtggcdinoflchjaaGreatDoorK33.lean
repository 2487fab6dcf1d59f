/- laws -/
import Derived.Test.YtggcdinoflchjaaGreatDoorK32
set_option maxRecDepth 100000
set_option maxHeartbeats 16000000
namespace Go.Proofs.YtggcdinoflchjaaGreatDoor
open Go.RowKit
theorem Zmq:(Tryz.prog.info? 3).map (fun i=>(i.zero,i.size,i.bytes))=some (some (.int .i64 0),1,8):=by kernel_rfl
def StG (B:Nat->Nat) (w:World) (n gm gl gb:Nat) (X:World):Prop:=GrS w.heap.size gb gm gl (gb+1)/\Gr B w gb gm gl (gb+1) n ⟨List.replicate n 0,0,[],List.replicate n false⟩ (.slice none 0 0) [] X
def ZeH (es:List Ent) (n k:Nat):Grp:=((List.range n).take k).foldl (fun s c=>if s.met.getD c 0=0 then (ZaQ es n s c).1 else s) ⟨List.replicate n 0,0,[],List.replicate n false⟩
def Zps (es:List Ent) (w:World) (e:Ending) (w':World):Prop:=∃ g,e=.returned (.slice (some ⟨g,0,none⟩) es.length es.length)/\MRow w' g es.length 4 ((ZaI es es.length).loop.map .bool)/\w.heap.size<=g/\Below w.heap.size w w'
theorem Zkq {A:Nat->Prop} {B:Nat->Nat} {T mb:Nat} {es:List Ent} (w:World) (hT:Tab A w T mb B es) (hlen:es.length<=1048576) (hlk:∀ (i:Nat) (e:Ent),es[i]? = some e->e.lk.length<=9223372036854775807)
  (hpar:∀ c,∀ d ∈ parE es c,d<es.length) (g:Nat) (hrow:MRow w g es.length 94 ((List.range es.length).map (entV B))) :
  Calls Tryz.prog 48 #[.slice (some ⟨g,0,none⟩) es.length es.length] w (Zps es w):=by
 obtain ⟨j0,hji,hz0,hz1,hz2⟩:=info_parts Zmq;obtain ⟨j1,kji,kz0,kz1,kz2⟩:=info_parts Ze7;obtain ⟨n,hn⟩:∃ n,n=es.length:=⟨_,rfl⟩
 have hmk1:=fun W=>Zcf (P:=Tryz.prog) 38 3 j0 (.int .i64 0) Tryz.underlying38 hji hz0 hz1 rfl n (by rw [hz2];omega) (by unfold maxLen;omega) W
 have hmk2:=fun W=>Zcf (P:=Tryz.prog) 91 4 j1 (.bool false) Tryz.underlying91 kji kz0 kz1 rfl n (by rw [kz2];omega) (by unfold maxLen;omega) W
 obtain ⟨M1,hM1⟩:=Classical.skolem.1 hmk1;obtain ⟨M2,hM2⟩:=Classical.skolem.1 hmk2;have r1:=fun W=>(hM1 W).1
 have r2:=fun W=>(hM2 W).1
 have HM1:=Hd hM1;have HM2:=Hd hM2;have HN:=Hd hn;rw [←hn];have HROW:=Hd hrow;rw [←hn] at HROW;have HT:=Hd hT;have HME:=Hd (fun gb gm gl lo hq=>Zjs (gb:=gb) (gm:=gm) (gl:=gl) (lo:=lo) hT hq hlen hlk hpar es.length);have HPAR:=Hd hpar;have HLEN:=Hd hlen;have hnb:n<=1048576:=by rw [hn];exact hlen
 unfold Zps;rw [←hn];clear hmk1 hmk2 hM1 hM2 hji hz0 hz1 hz2 kji kz0 kz1 kz2 hn hrow hT hlen hlk hpar;go_enter Tryz.func48,Tryz.ntmps48
 go_upto_region 1 with fail
 have HST:Hid (∀ gm gl X,w.heap.size<=gm->w.heap.size<=gl->gm ≠ gl->gm<X.heap.size->gl<X.heap.size->MRow X gm n 3 (List.replicate n (.int .i64 0))->MRow X gl n 4 (List.replicate n (.bool false))->Below w.heap.size w X->
   StG B w n gm gl X.heap.size (X.alloc (.cells #[.slice (some ⟨gm,0,none⟩) n n,.int .i64 0,.slice none 0 0,.slice (some ⟨gl,0,none⟩) n n] 119))):=Hd (fun gm gl X h1 h2 h3 h4 h5 r3 r4 hb=>by
  have hbe:Below X.heap.size X (X.alloc (.cells #[.slice (some ⟨gm,0,none⟩) n n,.int .i64 0,.slice none 0 0,.slice (some ⟨gl,0,none⟩) n n] 119)):=Zaa (Yab _ _) _;refine ⟨⟨hb.size,h1,h2,by omega,by omega,by omega,by omega,by omega,h3⟩,⟨Box.new X _ _,?_,?_,TRow.nil _ _,hb.trans (hbe.mono hb.size),by simp⟩⟩
  ·rw [Yck];exact r3.keep (Yad (S:=fun _=>False) hbe) id
  ·rw [Yck];exact r4.keep (Yad (S:=fun _=>False) hbe) id)
 go_cut [3] (fun s3 wx=>∃ gb gm gl,s3=.pointer (some ⟨gb,0,none⟩)/\StG B w n gm gl gb wx)
 case first=>
  (go_region_held3 (fun _=>True) (trivial) (fail))
  ·go_wp2_with fail
   go_meet
   obtain ⟨_,q1,q2⟩:=HM1.o w.drew;obtain ⟨_,q3,q4⟩:=HM2.o (M1 w.drew);have hl:=q1.lt;have hl2:=q3.lt;refine ⟨_,_,_,rfl,HST.o w.heap.size (M1 w.drew).heap.size _ (Yac _) q2.size (by show w.drew.heap.size ≠ _;omega) (Ybi hl q4.size) hl2 (q1.keep (Yad (S:=fun _=>False) q4) id) q3 ?_⟩;have h1:Below w.heap.size w (M1 w.drew):=(Zab (Yab _ w)).trans q2;exact h1.trans (q4.mono h1.size)
  ·go_wp2_with fail
   go_meet
   obtain ⟨_,q1,q2⟩:=HM2.o w.drew;obtain ⟨_,q3,q4⟩:=HM1.o (M2 w.drew);have hl:=q1.lt;have hl2:=q3.lt;refine ⟨_,_,_,rfl,HST.o (M2 w.drew).heap.size w.heap.size _ q2.size (Yac _) (fun e=>by have h9:w.drew.heap.size<(M2 w.drew).heap.size:=hl;rw [e] at h9;exact Nat.lt_irrefl _ h9) hl2 (Ybi hl q4.size) q3 (q1.keep (Yad (S:=fun _=>False) q4) id) ?_⟩;have h1:Below w.heap.size w (M2 w.drew):=(Zab (Yab _ w)).trans q2;exact h1.trans (q4.mono h1.size)
 case rest=>
  obtain ⟨gb,gm,gl,rfl,hq,hg⟩:=hcut;have HQ:=Hd hq;have HG:=Hd hg;have HMM:=Hd (HME.o gb gm gl _ hq);clear hq hg r1 r2 HM1 HM2 HST HME;go_wp2
  go_loopw [16] (fun v16 wr=>∃ (k:Nat) (ov:Value) (us:List Value),k<=n/\v16=.int .i64 k/\GI es.length (ZeH es n k)/\Gr B w gb gm gl (gb+1) n (ZeH es n k) ov us wr) (fun v16 _=>n - (intOf v16).toNat)
  case atStart=>
   have hz:ZeH es n 0=⟨List.replicate n 0,0,[],List.replicate n false⟩:=rfl;refine ⟨0,_,_,Yai _,rfl,?_,HG.o⟩;rw [hz,←HN.o];have hl:=ZdE (List.replicate n 0);rw [Ybz] at hl;refine ⟨by simp,fun c hc=>by (cases hc),?_,?_,fun z hz=>?_⟩
   ·show 0+ZaZ (List.replicate n 0)<=n
    omega
   ·show 0+ZaZ (List.replicate n 0)<=n
    omega
   ·rw [(List.mem_replicate.1 hz).2];exact Yai _
  case round=>
   obtain ⟨k,ov,us,hk,rfl,hgi,hgr⟩:=hrel;have HGI:=Hd hgi;have HGR:=Hd hgr;by_cases hlt:k<n
   ·have c0:wr.cell? ⟨g,k,none⟩=some (entV B k):=by
     rw [(HROW.o.keep (Yad (S:=fun _=>False) hgr.bel) id).at_ k hlt,Yau,Ybl hlt];rfl
    have hke:k<es.length:=by rw [←HN.o];exact hlt
    have c1:wr.cell? ⟨gb,0,none⟩=some (.slice (some ⟨gm,0,none⟩) n n):=hgr.box.cell 0 rfl;have c2:wr.cell? ⟨B k,0,none⟩=some (.int .i64 k):=by
     obtain ⟨_,_,_,_,hb,_,_,_,_⟩:=(HT.o.below hgr.bel).ent k es[k] (Yaa hke);exact hb.cell 0 rfl
    obtain ⟨z,hz⟩:∃ z,z=(ZeH es n k).met.getD k 0:=⟨_,rfl⟩
    have c3:wr.cell? ⟨gm,k,none⟩=some (.int .i64 z):=by
     rw [hgr.met.at_ k hlt,Yau,getD_some (by rw [hgi.mlen];exact hke),←hz];rfl
    have hk0:(0:Int)<=(k:Int):=by omega
    have hkn:(k:Int)<(n:Int):=by omega
    have hkr:(List.range n)[k]? = some k:=Ybl hlt;have hstep:ZeH es n (k+1)=if z=0 then (ZaQ es n (ZeH es n k) k).1 else ZeH es n k:=by
     unfold ZeH;rw [Zdd _ hkr,hz];rfl
    have HSTEP:=Hd hstep;have HZ:=Hd hz;have HKE:=Hd hke;have HS:Hid (∀ X,Below wr.heap.size wr X->X.cell? ⟨gb,0,none⟩=some (.slice (some ⟨gm,0,none⟩) n n)/\X.cell? ⟨B k,0,none⟩=some (.int .i64 k)/\X.cell? ⟨gm,k,none⟩=some (.int .i64 z)):=Hd (fun X hX=>by
     have ho:=Yad (S:=fun _=>False) hX;exact ⟨ho.cell c1 id,ho.cell c2 id,ho.cell c3 id⟩)
    have h0:Below wr.heap.size wr wr:=Yab _ _;clear hgi hgr hkr hstep hz hke;by_cases hz0:z=0
    ·subst hz0
     go_upto_region 5 with fail
     first
     | (go_region_held (fun X=>X.cell? ⟨gb,0,none⟩=some (.slice (some ⟨gm,0,none⟩) n n)/\X.cell? ⟨B k,0,none⟩=some (.int .i64 k)/\X.cell? ⟨gm,k,none⟩=some (.int .i64 (0:Nat)))
       ((refine HS.o _ ?_;(repeat (first|(with_reducible exact Yab _ _)|(with_reducible assumption)|(with_reducible refine Zab ?_))))) (fail))
     | fail
     clear c1 c2 c3 c0 h0;have HGD:=Hd HGR.o.drew;clear HGR HS;generalize wr.drew=wd at HGD ⊢;have HCALL:=Hd (HMM.o (ZeH es n k) ov us k wd HKE.o HZ.o.symm HGI.o (by have h1:=ZdE (ZeH es n k).met;rw [HGI.o.mlen] at h1;exact h1) (by rw [←HN.o];exact HGD.o))
     go_wp2_with fail
     refine HCALL.o.mono ?_;rintro e5 w5 ⟨rfl,ov5,us5,hg5,_⟩;have HG5:=Hd hg5;clear hg5 HCALL;go_wp2
     go_roundw
     case rel=>
      refine ⟨k+1,ov5,us5,by omega,by go_num,?_,?_⟩
      ·rw [HSTEP.o,YaC trivial,HN.o];rw [HN.o] at HGI HZ;exact (Zfg HLEN.o HPAR.o es.length _ k HGI.o HKE.o HZ.o.symm).1
      ·rw [HSTEP.o,YaC trivial,HN.o];have q:=HG5.o;rw [HN.o] at q;exact q
     case measure=>simp [intOf];omega
    ·have hz1:¬ (z:Int)=0:=by omega
     have hzb:((z:Int) == 0)=false:=Yah.2 (by omega);have HZ0:=Hd hz0;clear hz0
     go_upto_region 5 with fail
     first
     | (go_region_held (fun X=>X.cell? ⟨gb,0,none⟩=some (.slice (some ⟨gm,0,none⟩) n n)/\X.cell? ⟨B k,0,none⟩=some (.int .i64 k)/\X.cell? ⟨gm,k,none⟩=some (.int .i64 z))
       ((refine HS.o _ ?_;(repeat (first|(with_reducible exact Yab _ _)|(with_reducible assumption)|(with_reducible refine Zab ?_))))) (fail))
     | fail
     clear c1 c2 c3 c0 h0;have HGD:=Hd HGR.o.drew;clear HGR HS;generalize wr.drew=wd at HGD ⊢;go_wp2
     go_roundw
     case rel=>exact ⟨k+1,ov,us,by omega,by go_num,by rw [HSTEP.o,Yas HZ0.o];exact HGI.o,by rw [HSTEP.o,Yas HZ0.o];exact HGD.o⟩
     case measure=>simp [intOf];omega
   ·obtain rfl:k=n:=by omega
    have c3:wr.cell? ⟨gb,3,none⟩=some (.slice (some ⟨gl,0,none⟩) k k):=hgr.box.cell 3 rfl;clear hgi hgr;go_wp2;go_ret;have hf:ZeH es k k=ZaI es k:=by
     unfold ZeH ZaI;rw [Yaw (by rw [Yb5];exact Yac _)]
    refine ⟨gl,rfl,?_,HQ.o.ll,HGR.o.bel⟩;rw [←hf];exact HGR.o.loop
theorem Zmo {A:Nat->Prop} (l:List (List UInt8)) (s:List UInt8) (sv:Value) (w:World) (hs:Src 1 StrR A w sv l) (hlen:l.length<=9223372036854775807) :
  Calls Tryz.prog 59 #[sv,.string (S s)] w (ZjH (l.any fun y=>y == s) w):=by
 have es:=Zae s;rcases hs with ⟨ao,cp0,rfl,rfl⟩|⟨b,o,cap,rfl,_,hc⟩
 ·go_enter Tryz.func59,Tryz.ntmps59;go_wp2
  go_loop [8] (fun v8=>v8=.int .i64 0) (fun _=>0)
  case atStart=>exact rfl
  case round=>
   subst hrel;go_wp2;go_ret;exact ⟨-1,rfl,rfl,Yab _ _⟩
 ·have HC:=Hd hc;obtain ⟨n,hn⟩:∃ n,n=l.length:=⟨_,rfl⟩
  rw [←hn] at hlen ⊢;have HN:=Hd hn;clear hc hn;obtain ⟨p,hp⟩:∃ p:List UInt8->Bool,p=fun y=>y == s:=⟨_,rfl⟩
  rw [←hp];have HP:=Hd hp;clear hp;go_enter Tryz.func59,Tryz.ntmps59;go_wp2
  go_loop [8] (fun v8=>∃ k:Nat,k<=n/\v8=.int .i64 k/\(l.take k).any p=false) (fun v8=>n - (intOf v8).toNat)
  case atStart=>exact ⟨0,Yai _,rfl,by simp⟩
  case round=>
   obtain ⟨k,hk,rfl,hall⟩:=hrel;have HA:=Hd hall;clear hall;by_cases hlt:k<n
   ·have hkl:k<l.length:=by have:=HN.o;omega
    obtain ⟨x,hx⟩:∃ x,l[k]? = some x:=⟨_,Yaa hkl⟩
    obtain ⟨v,hv,hsz,hcl⟩:=HC.o k x hx;obtain rfl:=hv;have d0:w.cell? ⟨b,o+k,none⟩=some (.string (S x)):=by have q:=hcl 0 _ rfl;rw [YaG] at q;exact q
    have ex:=Zae x;have hts:=Zah p l k x hx;rw [HA.o,YaS] at hts;have hpx:p x=(x == s):=by rw [HP.o]
    have HTS:=Hd hts;have HX:=Hd hx;clear hx hkl hts hcl hsz;have hk0:(0:Int)<=k:=by omega
    have hkn:(k:Int)<(n:Int):=by omega
    cases hp:(x == s) with
    | true=>
     rw [hp] at hpx;have hfin:l.any p=true:=by
      rw [YaQ];exact ⟨x,Yaf HX.o,hpx⟩
     have HFI:=Hd hfin;have hq:(s == x)=true:=by rw [beq_iff_eq] at hp ⊢;exact hp.symm
     clear hp hfin hpx HTS;go_wp2;go_ret;exact ⟨k,rfl,by rw [HFI.o];simp,Yab _ _⟩
    | false=>
     rw [hpx,hp] at HTS;have hq:(s == x)=false:=by rw [Yah] at hp ⊢;exact fun e=>hp e.symm
     clear hp hpx;go_wp2
     go_round
     case rel=>exact ⟨k+1,by omega,by go_num,HTS.o⟩
     case measure=>simp [intOf];omega
   ·obtain rfl:k=n:=by omega
    have hfin:l.any p=false:=by
     have h:=HA.o;rw [HN.o,Yaw (Yac _)] at h;exact h
    have HFI:=Hd hfin;clear hfin;go_wp2;go_ret;exact ⟨-1,rfl,by rw [HFI.o];rfl,Yab _ _⟩
theorem ZeB {A:Nat->Prop} (l:List (List UInt8)) (s:List UInt8) (sv:Value) (w:World) (hs:Src 1 StrR A w sv l) (hlen:l.length<=9223372036854775807) :
  Calls Tryz.prog 30 #[sv,.string (S s)] w (Said (l.any fun y=>y == s) w):=by
 have HI:=Hd (Zmo l s sv w hs hlen);obtain ⟨ao,cp,rfl⟩:=hs.shape;generalize (l.any fun y=>y == s)=f at HI ⊢;generalize l.length=n at HI ⊢;clear hs hlen;go_enter Tryz.func30,Tryz.ntmps30
 go_wp2_with fail
 refine HI.o.mono ?_;rintro e w1 ⟨z,rfl,hz,hb⟩;have HZ:=Hd hz;have HB:=Hd hb;clear hz hb;go_wp2;go_ret;exact ⟨Ya5 (fun q=>Ending.returned (.bool q)) HZ.o,HB.o⟩
theorem ZnT {A:Nat->Prop} (m:Mth) (v:Value) (w:World) (hv:MthR A w m v) (hT:CT w) (hfit:m.Fit) :
  Calls Tryz.prog 162 #[v] w (Said m.body w):=by
 have hmf:∀ (fn:Fn) (first cap:Array Value) (w:World),(Instr.makeFunc fn first cap).run Tryz.prog w=.ok (.func fn first cap) w:=fun _ _ _ _=>rfl
 obtain ⟨pv,cv,kv,rfl,hp,hcd,hkt⟩:=hv;obtain ⟨po,pc,rfl⟩:=hp.shape;obtain ⟨co,cc,rfl⟩:=hcd.shape;obtain ⟨ko,kc,rfl⟩:=hkt.shape;have hb0:Below w.heap.size w (w.alloc (.cells #[.string (S m.name),.slice po m.params.length pc,.string (S m.res),.bool m.abs,.int .i64 m.loc,.slice co m.code.length cc,.slice ko m.cats.length kc] 44)):=(Yab _ w).alloc (Yac _) _;have HB0:=Hd hb0;have HBX:=Hd (Box.new w #[.string (S m.name),.slice po m.params.length pc,.string (S m.res),.bool m.abs,.int .i64 m.loc,.slice co m.code.length cc,.slice ko m.cats.length kc] 44);have HA1:Hid (Calls Tryz.prog 212 #[.slice co m.code.length cc,.func (.func 213) #[] #[]] (w.alloc (.cells #[.string (S m.name),.slice po m.params.length pc,.string (S m.res),.bool m.abs,.int .i64 m.loc,.slice co m.code.length cc,.slice ko m.cats.length kc] 44)) (Said (m.code.all Ins.fine) (w.alloc (.cells #[.string (S m.name),.slice po m.params.length pc,.string (S m.res),.bool m.abs,.int .i64 m.loc,.slice co m.code.length cc,.slice ko m.cats.length kc] 44)))):=Hd (
  ZpB (A:=A) 213 #[] Ins.fine m.code _ _ (Zai Tryz.func213 (by kernel_rfl) rfl) (InsR.st.below hcd hb0) (fun k x u w' hx hb' hu=>by
   obtain rfl:=hu;exact Zln x w' ((hT.keep hb0).keep hb') (hfit.code x (Yaf hx))) hfit.n2)
 have HA2:Hid (∀ W,Below (w.alloc (.cells #[.string (S m.name),.slice po m.params.length pc,.string (S m.res),.bool m.abs,.int .i64 m.loc,.slice co m.code.length cc,.slice ko m.cats.length kc] 44)).heap.size (w.alloc (.cells #[.string (S m.name),.slice po m.params.length pc,.string (S m.res),.bool m.abs,.int .i64 m.loc,.slice co m.code.length cc,.slice ko m.cats.length kc] 44)) W->Calls Tryz.prog 214 #[.slice ko m.cats.length kc,.func (.func 215) #[] #[.pointer (some ⟨w.heap.size,0,none⟩)]] W (Said (m.cats.all (Cat.ok m.code.length)) W)):=Hd (fun W hW=>
  Zpz (A:=A) 215 #[.pointer (some ⟨w.heap.size,0,none⟩)] (Cat.ok m.code.length) m.cats _ _ (Zai Tryz.func215 (by kernel_rfl) rfl) (CatR.st.below (CatR.st.below hkt hb0) hW) (fun k x u w' hx hb' hu=>by
   obtain rfl:=hu;exact Zlk x w.heap.size co m.code.length cc w' (hfit.cats x (Yaf hx)) (((HBX.o.below hW).below hb').cell 5 rfl)) hfit.n3)
 unfold Mth.body;clear hp hcd hkt hT hfit hb0;generalize m.code.all Ins.fine=a1 at HA1 ⊢;generalize m.cats.all (Cat.ok m.code.length)=a2 at HA2 ⊢;generalize m.params.length=n1 at *;generalize m.code.length=n2 at *;generalize m.cats.length=n3 at *;obtain ⟨name,params,res,ab,loc,code,cats⟩:=m;dsimp only at *;cases ab
 ·by_cases h1:(n1:Int)<loc
  case neg=>
   rw [Yaj h1];have d1:=Yaj h1;go_enter Tryz.func162,Tryz.ntmps162;go_wp2;go_ret;exact ⟨rfl,HB0.o⟩
  rw [Yat h1];have d1:=Yat h1;by_cases h2:0<n2
  case neg=>
   rw [Yaj h2];have i2:¬ (0<(n2:Int)):=by omega
   go_enter Tryz.func162,Tryz.ntmps162;go_wp2;go_ret;exact ⟨rfl,HB0.o⟩
  rw [Yat h2];have i2:0<(n2:Int):=by omega
  go_enter Tryz.func162,Tryz.ntmps162
  go_wp2_with fail
  refine HA1.o.mono ?_;rintro e w1 ⟨rfl,hb1⟩;have c6:=(HBX.o.below hb1).cell 6 rfl;have HB1:=Hd hb1;have HB2:=Hd (HB0.o.trans (hb1.mono HB0.o.size));clear hb1;cases a1
  ·go_wp2;go_ret;exact ⟨rfl,HB2.o⟩
  ·go_wp2_with fail
   refine (HA2.o _ HB1.o).mono ?_;rintro e w2 ⟨rfl,hb2⟩;have hb3:Below w.heap.size w w2:=HB2.o.trans (hb2.mono HB2.o.size);clear hb2 c6;go_wp2;go_ret;exact ⟨rfl,hb3⟩
 ·by_cases h1:loc=0
  case neg=>
   rw [Yaj h1];have d1:(loc == 0)=false:=by rw [Yah];exact h1
   go_enter Tryz.func162,Tryz.ntmps162;go_wp2;go_ret;exact ⟨rfl,HB0.o⟩
  subst h1;by_cases h2:n2=0
  case neg=>
   rw [Yaj h2];have d2:((n2:Int) == 0)=false:=by rw [Yah];omega
   go_enter Tryz.func162,Tryz.ntmps162;go_wp2;go_ret;exact ⟨rfl,HB0.o⟩
  subst h2;by_cases h3:n3=0
  case neg=>
   rw [Yaj h3];have d3:((n3:Int) == 0)=false:=by rw [Yah];omega
   go_enter Tryz.func162,Tryz.ntmps162;go_wp2;go_ret;exact ⟨rfl,HB0.o⟩
  subst h3;go_enter Tryz.func162,Tryz.ntmps162;go_wp2;go_ret;exact ⟨rfl,HB0.o⟩
theorem Zjd {A:Nat->Prop} (m:Mth) (v:Value) (w:World) (hv:MthR A w m v) (hT:CT w) (hfit:m.Fit) :
  Calls Tryz.prog 106 #[v] w (Said m.ok w):=by
 have hv0:=hv;obtain ⟨pv,cv,kv,rfl,hp,hcd,hkt⟩:=hv;obtain ⟨po,pc,rfl⟩:=hp.shape;obtain ⟨co,cc,rfl⟩:=hcd.shape;obtain ⟨ko,kc,rfl⟩:=hkt.shape;have hb0:Below w.heap.size w (w.alloc (.cells #[.string (S m.name),.slice po m.params.length pc,.string (S m.res),.bool m.abs,.int .i64 m.loc,.slice co m.code.length cc,.slice ko m.cats.length kc] 44)):=(Yab _ w).alloc (Yac _) _;have HB0:=Hd hb0;have HBX:=Hd (Box.new w #[.string (S m.name),.slice po m.params.length pc,.string (S m.res),.bool m.abs,.int .i64 m.loc,.slice co m.code.length cc,.slice ko m.cats.length kc] 44);have HM:Hid (∀ W,Calls Tryz.prog 159 #[.string (S m.name)] W (Said (memB m.name) W)):=Hd (fun W=>ZfW m.name W hfit.name);have HP:Hid (∀ W,Below (w.alloc (.cells #[.string (S m.name),.slice po m.params.length pc,.string (S m.res),.bool m.abs,.int .i64 m.loc,.slice co m.code.length cc,.slice ko m.cats.length kc] 44)).heap.size (w.alloc (.cells #[.string (S m.name),.slice po m.params.length pc,.string (S m.res),.bool m.abs,.int .i64 m.loc,.slice co m.code.length cc,.slice ko m.cats.length kc] 44)) W->Calls Tryz.prog 150 #[.slice po m.params.length pc,.func (.func 160) #[] #[]] W (Said (m.params.all Zaj) W)):=Hd (fun W hW=>
  ZlE (A:=A) 160 #[] Zaj m.params _ _ (Zai Tryz.func160 (by kernel_rfl) rfl) (StrR.st.below (StrR.st.below hp hb0) hW) (fun k x u w' hx hb' hu=>by
   obtain rfl:=hu;exact Zfu x w' (hfit.params x (Yaf hx))) hfit.n1)
 have HR:Hid (∀ W,Calls Tryz.prog 160 #[.string (S m.res)] W (Said (Zaj m.res) W)):=Hd (fun W=>Zfu m.res W hfit.res);have HBD:Hid (∀ W,Below (w.alloc (.cells #[.string (S m.name),.slice po m.params.length pc,.string (S m.res),.bool m.abs,.int .i64 m.loc,.slice co m.code.length cc,.slice ko m.cats.length kc] 44)).heap.size (w.alloc (.cells #[.string (S m.name),.slice po m.params.length pc,.string (S m.res),.bool m.abs,.int .i64 m.loc,.slice co m.code.length cc,.slice ko m.cats.length kc] 44)) W->Calls Tryz.prog 162 #[.agg #[.string (S m.name),.slice po m.params.length pc,.string (S m.res),.bool m.abs,.int .i64 m.loc,.slice co m.code.length cc,.slice ko m.cats.length kc]] W (Said m.body W)):=Hd (fun W hW=>
  ZnT (A:=A) m _ W (MthR.st.keep (MthR.st.keep hv0 (Yad (S:=fun _=>False) hb0) (fun _ _=>id)) (Yad (S:=fun _=>False) hW) (fun _ _=>id)) ((hT.keep hb0).keep hW) hfit)
 have hrl:=Zb7 m.res [];unfold Mth.ok;clear hp hcd hkt hT hfit hb0 hv0;generalize memB m.name=a1 at HM ⊢;generalize m.params.all Zaj=a2 at HP ⊢;generalize Zaj m.res=a3 at HR ⊢;generalize m.body=a4 at HBD ⊢;generalize decide (m.res=[])=d0 at hrl ⊢;have HRL:=Hd hrl;clear hrl;go_enter Tryz.func106,Tryz.ntmps106
 go_wp2_with fail
 refine (HM.o _).mono ?_;rintro e w1 ⟨rfl,hb1⟩;have HB1:=Hd hb1;have HC1:=Hd (HB0.o.trans (hb1.mono HB0.o.size));have c1:=(HBX.o.below hb1).cell 1 rfl;clear hb1;cases a1
 ·go_wp2;go_ret;exact ⟨rfl,HC1.o⟩
 go_wp2_with fail
 refine (HP.o _ HB1.o).mono ?_;rintro e w2 ⟨rfl,hb2⟩;have HB2:=Hd (HB1.o.trans (hb2.mono HB1.o.size));have HC2:=Hd (HC1.o.trans (hb2.mono HC1.o.size));clear hb2 c1;have c2:=(HBX.o.below HB2.o).cell 2 rfl;cases a2
 ·go_wp2;go_ret;exact ⟨rfl,HC2.o⟩
 have hrl:=HRL.o;cases d0
 case true=>
  have q0:=(HBX.o.below HB2.o).cell 0 rfl;have q1:=(HBX.o.below HB2.o).cell 1 rfl;have q3:=(HBX.o.below HB2.o).cell 3 rfl;have q4:=(HBX.o.below HB2.o).cell 4 rfl;have q5:=(HBX.o.below HB2.o).cell 5 rfl;have q6:=(HBX.o.below HB2.o).cell 6 rfl
  go_wp2_with fail
  refine (HBD.o _ HB2.o).mono ?_;rintro e w3 ⟨rfl,hb3⟩;have hb4:Below w.heap.size w w3:=HC2.o.trans (hb3.mono HC2.o.size);clear hb3 c2 q0 q1 q3 q4 q5 q6;go_wp2;go_ret;exact ⟨rfl,hb4⟩
 case false=>
  go_wp2_with fail
  refine (HR.o _).mono ?_;rintro e w3 ⟨rfl,hb3⟩;have HB3:=Hd (HB2.o.trans (hb3.mono HB2.o.size));have HC3:=Hd (HC2.o.trans (hb3.mono HC2.o.size));clear hb3 c2;cases a3
  ·go_wp2;go_ret;exact ⟨rfl,HC3.o⟩
  have q0:=(HBX.o.below HB3.o).cell 0 rfl;have q1:=(HBX.o.below HB3.o).cell 1 rfl;have q2:=(HBX.o.below HB3.o).cell 2 rfl;have q3:=(HBX.o.below HB3.o).cell 3 rfl;have q4:=(HBX.o.below HB3.o).cell 4 rfl;have q5:=(HBX.o.below HB3.o).cell 5 rfl;have q6:=(HBX.o.below HB3.o).cell 6 rfl
  go_wp2_with fail
  refine (HBD.o _ HB3.o).mono ?_;rintro e w4 ⟨rfl,hb4⟩;have hb5:Below w.heap.size w w4:=HC3.o.trans (hb4.mono HC3.o.size);clear hb4 q0 q1 q2 q3 q4 q5 q6;go_wp2;go_ret;exact ⟨rfl,hb5⟩
theorem ZoD {A:Nat->Prop} (c:Cls) (v:Value) (w:World) (hv:ClsR A w c v) :
  Calls Tryz.prog 100 #[v] w (Said c.many w):=by
 obtain ⟨lv,fv,mv,rfl,hl,hf,hm⟩:=hv;obtain ⟨lo,lc,rfl⟩:=hl.shape;obtain ⟨fo,fc,rfl⟩:=hf.shape;obtain ⟨mo,mc,rfl⟩:=hm.shape;have hb0:Below w.heap.size w (w.alloc (.cells #[.string (S c.name),.string (S c.sup),.slice lo c.like.length lc,.bool c.itf,.bool c.abs,.bool c.fin,.slice fo c.flds.length fc,.slice mo c.mths.length mc] 87)):=(Yab _ w).alloc (Yac _) _;have HB0:=Hd hb0;have HA:Hid (c.mths.length<=32->Calls Tryz.prog 146 #[.slice mo c.mths.length mc,.func (.func 147) #[] #[]] (w.alloc (.cells #[.string (S c.name),.string (S c.sup),.slice lo c.like.length lc,.bool c.itf,.bool c.abs,.bool c.fin,.slice fo c.flds.length fc,.slice mo c.mths.length mc] 87)) (Said (c.mths.any Mth.many) (w.alloc (.cells #[.string (S c.name),.string (S c.sup),.slice lo c.like.length lc,.bool c.itf,.bool c.abs,.bool c.fin,.slice fo c.flds.length fc,.slice mo c.mths.length mc] 87)))):=Hd (fun hle=>
  Zc8 (A:=A) 147 #[] Mth.many c.mths _ _ (Zai Tryz.func147 (by kernel_rfl) rfl) (MthR.st.below hm hb0) (fun k x u w' _ _ hu=>ZmP x u w' hu) (by omega))
 unfold Cls.many;clear hl hf hm hb0;generalize c.mths.any Mth.many=a1 at HA ⊢;generalize c.like.length=n1 at *;generalize c.flds.length=n2 at *;generalize c.mths.length=n3 at *;by_cases h1:32<n1
 case pos=>
  rw [Yat h1];have ih1:32<(n1:Int):=by omega
  go_enter Tryz.func100,Tryz.ntmps100;go_wp2;go_ret;exact ⟨rfl,HB0.o⟩
 rw [Yaj h1,YaS];have ih1:¬ (32<(n1:Int)):=by omega
 by_cases h2:32<n2
 case pos=>
  rw [Yat h2];have ih2:32<(n2:Int):=by omega
  go_enter Tryz.func100,Tryz.ntmps100;go_wp2;go_ret;exact ⟨rfl,HB0.o⟩
 rw [Yaj h2,YaS];have ih2:¬ (32<(n2:Int)):=by omega
 by_cases h3:32<n3
 case pos=>
  rw [Yat h3];have ih3:32<(n3:Int):=by omega
  go_enter Tryz.func100,Tryz.ntmps100;go_wp2;go_ret;exact ⟨rfl,HB0.o⟩
 rw [Yaj h3,YaS];have ih3:¬ (32<(n3:Int)):=by omega
 have HA':=Hd (HA.o (by omega));clear HA;go_enter Tryz.func100,Tryz.ntmps100
 go_wp2_with fail
 refine HA'.o.mono ?_;rintro e w1 ⟨rfl,hb1⟩;have HB1:=Hd (HB0.o.trans (hb1.mono HB0.o.size));clear hb1;go_wp2;go_ret;exact ⟨rfl,HB1.o⟩
theorem ZnV {A:Nat->Prop} (c:Cls) (v:Value) (w:World) (hv:ClsR A w c v) (hn:c.mths.length<=32) :
  Calls Tryz.prog 102 #[v] w (Said c.sort w):=by
 obtain ⟨lv,fv,mv,rfl,hl,hf,hm⟩:=hv;obtain ⟨lo,lc,rfl⟩:=hl.shape;obtain ⟨fo,fc,rfl⟩:=hf.shape;obtain ⟨mo,mc,rfl⟩:=hm.shape;have hb0:Below w.heap.size w (w.alloc (.cells #[.string (S c.name),.string (S c.sup),.slice lo c.like.length lc,.bool c.itf,.bool c.abs,.bool c.fin,.slice fo c.flds.length fc,.slice mo c.mths.length mc] 87)):=(Yab _ w).alloc (Yac _) _;have HB0:=Hd hb0;have HBX:=Hd (Box.new w #[.string (S c.name),.string (S c.sup),.slice lo c.like.length lc,.bool c.itf,.bool c.abs,.bool c.fin,.slice fo c.flds.length fc,.slice mo c.mths.length mc] 87);have HA:Hid (Calls Tryz.prog 146 #[.slice mo c.mths.length mc,.func (.func 157) #[] #[]] (w.alloc (.cells #[.string (S c.name),.string (S c.sup),.slice lo c.like.length lc,.bool c.itf,.bool c.abs,.bool c.fin,.slice fo c.flds.length fc,.slice mo c.mths.length mc] 87)) (Said (c.mths.any Mth.abs) (w.alloc (.cells #[.string (S c.name),.string (S c.sup),.slice lo c.like.length lc,.bool c.itf,.bool c.abs,.bool c.fin,.slice fo c.flds.length fc,.slice mo c.mths.length mc] 87)))):=Hd (
  Zc8 (A:=A) 157 #[] Mth.abs c.mths _ _ (Zai Tryz.func157 (by kernel_rfl) rfl) (MthR.st.below hm hb0) (fun k x u w' _ _ hu=>Zhr x u w' hu) (by omega))
 have HL:Hid (Calls Tryz.prog 105 #[.slice mo c.mths.length mc,.func (.func 157) #[] #[]] (w.alloc (.cells #[.string (S c.name),.string (S c.sup),.slice lo c.like.length lc,.bool c.itf,.bool c.abs,.bool c.fin,.slice fo c.flds.length fc,.slice mo c.mths.length mc] 87)) (Said (c.mths.all Mth.abs) (w.alloc (.cells #[.string (S c.name),.string (S c.sup),.slice lo c.like.length lc,.bool c.itf,.bool c.abs,.bool c.fin,.slice fo c.flds.length fc,.slice mo c.mths.length mc] 87)))):=Hd (
  ZlD (A:=A) 157 #[] Mth.abs c.mths _ _ (Zai Tryz.func157 (by kernel_rfl) rfl) (MthR.st.below hm hb0) (fun k x u w' _ _ hu=>Zhr x u w' hu) (by omega))
 have hsl:=Zb7 c.sup [79,98,106,101,99,116];unfold Cls.sort objL;clear hl hf hm hb0 hn;generalize c.mths.any Mth.abs=a1 at HA ⊢;generalize c.mths.all Mth.abs=a2 at HL ⊢;generalize c.mths.length=n3 at *;generalize c.flds.length=n2 at *;generalize c.like.length=n1 at *;obtain ⟨name,sup,like,itf,abs,fin,flds,mths⟩:=c;dsimp only at *;cases abs
 ·go_enter Tryz.func102,Tryz.ntmps102
  go_wp2_with fail
  refine HA.o.mono ?_;rintro e w1 ⟨rfl,hb1⟩;have c3:=(HBX.o.below hb1).cell 3 rfl;have c4:=(HBX.o.below hb1).cell 4 rfl;have HB1:=Hd (HB0.o.trans (hb1.mono HB0.o.size));clear hb1;cases a1
  ·cases itf
   ·go_wp2;go_ret;exact ⟨by cases fin <;> rfl,HB1.o⟩
   ·go_wp2;go_ret;exact ⟨by cases fin <;> rfl,HB1.o⟩
  ·go_wp2;go_ret;exact ⟨by cases fin <;> rfl,HB1.o⟩
 ·cases fin
  case true=>
   go_enter Tryz.func102,Tryz.ntmps102;go_wp2;go_ret;exact ⟨rfl,HB0.o⟩
  cases itf
  ·go_enter Tryz.func102,Tryz.ntmps102;go_wp2;go_ret;exact ⟨rfl,HB0.o⟩
  by_cases hs:sup=[79,98,106,101,99,116]
  case neg=>
   rw [Yaj hs] at hsl ⊢;go_enter Tryz.func102,Tryz.ntmps102;go_wp2;go_ret;exact ⟨rfl,HB0.o⟩
  rw [Yat hs] at hsl ⊢;clear hs;by_cases h2:n2=0
  case neg=>
   rw [Yaj h2];have d2:((n2:Int) == 0)=false:=by rw [Yah];omega
   go_enter Tryz.func102,Tryz.ntmps102;go_wp2;go_ret;exact ⟨rfl,HB0.o⟩
  subst h2;go_enter Tryz.func102,Tryz.ntmps102
  go_wp2_with fail
  refine HL.o.mono ?_;rintro e w1 ⟨rfl,hb1⟩;have HB1:=Hd (HB0.o.trans (hb1.mono HB0.o.size));clear hb1;go_wp2;go_ret;exact ⟨rfl,HB1.o⟩
