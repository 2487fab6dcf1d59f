/- laws -/
import Derived.Test.YtggcdinoflchjaaGreatDoorK75
set_option maxRecDepth 100000
set_option maxHeartbeats 16000000
namespace Go.Proofs.YtggcdinoflchjaaGreatDoor
open Go.RowKit
theorem Zo6 {lo:Nat} {W:World} (hlo:lo<=W.heap.size) (z:List UInt8):KR lo (W.alloc (.cells #[.string (S z)] 9)) (.slice (some ⟨W.heap.size,0,none⟩) 1 1) [z]:=
 ⟨by simp,.inr ⟨W.heap.size,1,#[.string (S z)],rfl,hlo,heap_alloc_new W _,Yac _,by decide,by simp,by simp [strV]⟩⟩
theorem Zo5 {lo:Nat} {A:Nat->Prop} {W:World} {v sv:Value} {l xs:List (List UInt8)} (h:KR lo W v l) (hlo:lo<=W.heap.size) (hs:Src 1 StrR A W sv xs) (hl:l.length+xs.length<=1048576) (ty:TypeId) :
  ∃ v' w',(Builtin.append_ #[22,22] ty #[v,sv]).run Tryz.prog W=.ok v' w'/\KR lo w' v' (l++xs)/\Grew W v w' v':=by
 obtain ⟨j0,hji,hz0,hz1,hz2⟩:=info_parts ZcD;rcases hs with ⟨ao,cap,rfl,rfl⟩|⟨b,o,cap,rfl,_,hc⟩
 ·rw [Ya2];exact ⟨v,W,Za5 W 22 ty 9 j0 1 Tryz.underlying22 hji v l.length (l.map strV) (ZcV h (Yai _)) ao cap,h,Grew.refl _ _⟩
 ·exact KRF.append (P:=Tryz.prog) Zel 22 ty j0 _ 16 Tryz.underlying22 hji hz0 hz1 hz2 rfl h hlo rfl (fun k x hk=>by
   obtain ⟨u,hu,hz,hcl⟩:=hc k x hk;obtain rfl:u=strV x:=hu;have:=hcl 0 (strV x) rfl;rw [YaG,YbY] at this;exact this) (by omega) (by omega)
theorem Zj5 {W:World} {g m:Nat} {xs:List Value} (h:MRow W g m 9 xs) (b o c:Nat) (l:List (List UInt8)) (hc:∀ k x,l[k]? = some x->W.cell? ⟨b,o+k,none⟩=some (strV x)) (ty:TypeId) :
  ∃ w',(Builtin.copy_ #[22,22] ty #[.slice (some ⟨g,0,none⟩) m m,.slice (some ⟨b,o,none⟩) l.length c]).run Tryz.prog W=.ok (.int .i64 ((l.take m).length:Nat)) w'/\MRow w' g m 9 ((l.take m).map strV++xs.drop (l.take m).length)/\Only (fun i=>i=g) W w':=by
 have hxs:=h.1;rcases h.2 with ⟨hv,_⟩|⟨g',cap,cur,hv,hb,hg,hnc,hcm,hcs,ht⟩
 ·cases hv
 simp only [Value.slice.injEq,Yba,YbF,and_true,true_and] at hv;obtain ⟨rfl,rfl⟩:=hv;have hlen:((l.take m).map strV).length=(l.take m).length:=Yaz ..;have hle:(l.take m).length<=m:=by rw [Yay];omega
 have hmin:(l.take m).length=Nat.min l.length m:=by rw [Yay,Nat.min_comm]
 have hrun:=run_copy_row Tryz.prog W 22 22 ty 9 g 0 m m ⟨b,o,none⟩ l.length c cur 9 ((l.take m).map strV) Tryz.underlying22 Zf3 hg (by rw [hlen];exact hmin) (fun j v hj=>by
  rw [Yau] at hj;obtain ⟨x,hx,rfl⟩:=YaU.1 hj;rw [Ybo];refine hc j x ?_;rw [YbI] at hx;split at hx
  ·exact hx
  ·cases hx) (by rw [hlen];omega) (fun v hv=>by obtain ⟨x,_,rfl⟩:=Ya6.1 hv;rfl)
 rw [hlen] at hrun;have hcur:cur.toList=xs:=by
  rw [←ht,Yaw (by rw [Ybj];omega)]
 refine ⟨_,hrun,⟨by rw [Yak,hlen,Ybn];omega,.inr ⟨g,m,_,rfl,Yai _,setRow_heap W g cur _ _ _ hg,Yac _,hcm,?_,?_⟩⟩,ZeG _ _ _⟩
 ·simp only [YbM,Ybm,List.size_toArray,Yak,Ybn,Ybj,hlen];omega
 ·simp only [YbM,Ybm,hcur,Ybc];rw [Yaw (by rw [Yak,hlen,Ybn];omega)]
def Zbs (cl:List UInt8) (ps:List (List UInt8)) (k:Nat):List (List UInt8):=(cl :: ps).take k++List.replicate (k - ((cl :: ps).take k).length) []
def ZgS (cl:List UInt8) (ps:List (List UInt8)) (ml:Int) (w:World) (e:Ending) (w':World):Prop:=∃ v,e=.returned v/\ShpR Anyw w' ⟨true,[],Zbs cl ps ml.toNat⟩ v/\Below w.heap.size w w'
theorem ZjR {A:Nat->Prop} (cl mn mr:List UInt8) (ml:Int) (ma:Bool) (ps:List (List UInt8)) (po co ko:Option Addr) (pc cn cc kn kc:Nat) (w:World) (hp:Src 1 StrR A w (.slice po ps.length pc) ps) (hps:ps.length<=100) (hml:ml<=1000) (hm0:-9223372036854775808<=ml) (hcl:cl.length<=100) (hfit:∀ x ∈ ps,x.length<=281474976710656) :
  Calls Tryz.prog 20 #[.string (S cl),.agg #[.string (S mn),.slice po ps.length pc,.string (S mr),.bool ma,.int .i64 ml,.slice co cn cc,.slice ko kn kc]] w (ZgS cl ps ml w):=by
 obtain ⟨n,hn⟩:∃ n,n=ps.length:=⟨_,rfl⟩
 rw [←hn] at hp hps ⊢;have HN:=Hd hn;clear hn;obtain ⟨w2,hw2⟩:∃ V,V=((w.alloc (.cells #[.string (S mn),.slice po n pc,.string (S mr),.bool ma,.int .i64 ml,.slice co cn cc,.slice ko kn kc] 44)).alloc (.cells #[.bool false,.slice none 0 0,.slice none 0 0] 24)):=⟨_,rfl⟩
 have hb0:Below w.heap.size w w2:=by rw [hw2];exact Zaa (Zaa (Yab _ _) _) _
 have bxM:Box w2 w.heap.size #[.string (S mn),.slice po n pc,.string (S mr),.bool ma,.int .i64 ml,.slice co cn cc,.slice ko kn kc] 44:=by rw [hw2];unfold Box;repeat (first|(exact Zaf _ _ _ (by simp))|(with_reducible apply Zaq))
 have bxR:Box w2 (w.heap.size+1) #[.bool false,.slice none 0 0,.slice none 0 0] 24:=by rw [hw2];unfold Box;repeat (first|(exact Zaf _ _ _ (by simp))|(with_reducible apply Zaq))
 have hz2:w2.heap.size=w.heap.size+1+1:=by rw [hw2];simp
 obtain ⟨m,hm⟩:∃ m:Nat,m=ml.toNat:=⟨_,rfl⟩
 have hm1:m<=1000:=by omega
 have hmx:max ml 0=(m:Int):=by omega
 obtain ⟨j0,hji,hy0,hy1,hy2⟩:=info_parts ZcD;obtain ⟨w3,hmk,hrow,hb3⟩:=Zcf (P:=Tryz.prog) 22 9 j0 (.string ⟨#[]⟩) Tryz.underlying22 hji hy0 hy1 rfl m (by rw [hy2];omega) (by unfold maxLen;omega) w2;rw [←hmx] at hmk;rw [hz2] at hmk hrow;have HMM:=Hd hm;clear hmx hm;have c4:=bxM.cell 4 rfl;go_enter Tryz.func20,Tryz.ntmps20
 go_upto_region 1 with fail
 rw [←hw2];clear hw2;have hn1:(n:Int)<=100:=by omega
 have B3:=Hd (hb0.trans (hb3.mono hb0.size));have hsz3:=hb3.size;have hq4:Below w3.heap.size w3 (w3.alloc (.cells #[.string (S cl)] 9)):=Zaa (Yab _ _) _;have XM:=bxM.below (hb3.trans (hq4.mono hb3.size));have e1:=XM.cell 1 rfl;have hk1:=Zo6 (lo:=w3.heap.size) (Yac _) cl (W:=w3);have hp4:=StrR.st.below hp (hb0.trans ((hb3.trans (hq4.mono hb3.size)).mono hb0.size));obtain ⟨v5,w5,hr5,hk5,hg5⟩:=Zo5 hk1 hq4.size hp4 (by rw [←HN.o];simp;omega) 22;have hb5:Below w3.heap.size w3 w5:=hq4.trans (hg5.only.below hq4.size (fun i hi=>(hk1.own i hi).1));have HR5:=Hd hr5;have HCK:=Hd (Zc6 ([cl]++ps) v5 w5 (hk5.src Zbc) (by simp;rw [←HN.o];omega) (fun x hx=>by
  rcases Yao.1 hx with h|h
  ·rw [YaA.1 h];omega
  ·exact hfit x h))
 unfold Zfz at HCK;clear hr5 hk5 hk1 hp4 hp hfit
 go_wp2_with (at_builtin;(refine Zak rfl _ _ 22 rfl _ _ v5 w5 rfl rfl HR5.o ?_))
 go_wp2_with fail
 with_reducible refine HCK.o.mono ?_
 rintro e w6 ⟨v6,rfl,hk6,hb6⟩;obtain ⟨g,c6,rfl,hnc6,_⟩:=hk6.there (by simp);have hlen:([cl]++ps).length=n+1:=by rw [HN.o];simp
 have hbr:=hb5.trans (hb6.mono hb5.size);have hrow6:=hrow.keep (Yad (S:=fun _=>False) hbr) id;obtain ⟨w7,hcp,hrow7,ho7⟩:=Zj5 hrow6 g 0 c6 ([cl]++ps) (fun k x hx=>by
  have hc:=World.ownsRow.cells (g:=g) hk6 rfl k (strV x) (by rw [Yau,hx];rfl);rw [Ybo] at hc;exact hc) 3
 rw [hlen] at hcp ⊢;have hb7:Below w2.heap.size w2 w7:=(hb3.trans (hbr.mono hsz3)).trans (ho7.below (by have:=hbr.size;omega) (fun i hi=>by omega));have XR:=bxR.keep (Yad (S:=fun _=>False) (hb3.trans (hbr.mono hsz3))) id |>.keep ho7 (by omega)
 have XR7:=Hd XR;obtain ⟨r0,r1,r2⟩:_/\_/\_:=⟨XR.cell 0 rfl,XR.cell 1 rfl,XR.cell 2 rfl⟩;obtain ⟨q0,q1,q2⟩:_/\_/\_:=⟨XR.free 0,XR.free 1,XR.free 2⟩;have HB7:=Hd (hb0.trans (hb7.mono hb0.size));have HR7:=Hd hrow7;have HH:=Hd hmk;clear hrow7 hrow6 hrow hb7 hbr hb5 hb6 hb3 hb0 bxM bxR XM e1 c4 hz2 hsz3 hk6 hg5 hq4 XR B3;go_wp2;obtain ⟨Wf,hWf⟩:∃ V,V=(((w7.setCell ⟨w.heap.size+1,0,none⟩ (.bool true)).setCell ⟨w.heap.size+1,1,none⟩ (.slice none 0 0)).setCell ⟨w.heap.size+1,2,none⟩ (.slice (some ⟨w.heap.size+1+1,0,none⟩) m m)):=⟨_,rfl⟩
 have ho:Only (fun i=>i=w.heap.size+1) w7 Wf:=by rw [hWf];exact (((Yan (fun i=>i=w.heap.size+1) w7).setCell (p:=⟨w.heap.size+1,0,none⟩) rfl _).setCell (p:=⟨w.heap.size+1,1,none⟩) rfl _).setCell (p:=⟨w.heap.size+1,2,none⟩) rfl _
 have XF:Box Wf (w.heap.size+1) #[.bool true,.slice none 0 0,.slice (some ⟨w.heap.size+1+1,0,none⟩) m m] 24:=by rw [hWf];exact ((XR7.o.set 0 (.bool true)).set 1 (.slice none 0 0)).set 2 (.slice (some ⟨w.heap.size+1+1,0,none⟩) m m)
 have HBF:=Hd (HB7.o.trans (ho.below HB7.o.size (fun i hi=>by omega)));have hrf:MRow Wf (w.heap.size+1+1) m 9 _:=HR7.o.keep ho (by omega);have hbl:(Zbs cl ps m).length=m:=by unfold Zbs;rw [Yak,Ybz];have:((cl :: ps).take m).length<=m:=List.length_take_le ..;omega
 have hk:KR 0 Wf (.slice (some ⟨w.heap.size+1+1,0,none⟩) m m) (Zbs cl ps m):=by
  unfold KR KRF;rw [hbl];unfold Zbs;rw [Ya4,Yck];rw [List.drop_replicate] at hrf;exact hrf
 have HS:=Hd (KRF.src Zbc hk);have l:=ZaD (P:=Tryz.prog) XF Tryz.underlying24 rfl Zbj;rw [←hWf];clear hWf XF ho hrf hk;have hmm:=HMM.o;refine bodyPost_ret (v:=.agg #[.bool true,.slice none 0 0,.slice (some ⟨w.heap.size+1+1,0,none⟩) m m]) ?_ rfl ⟨_,rfl,?_,HBF.o⟩
 ·simp [results,Tryz.results20,asAddr,l]
 ·rw [←hmm];exact ⟨_,_,rfl,Src.nil,StrR.st.any HS.o⟩
theorem Zcc (cl:List UInt8) (ps:List (List UInt8)) (m:Nat):(Zbs cl ps m).length=m:=by
 unfold Zbs;rw [Yak,Ybz];have:((cl :: ps).take m).length<=m:=List.length_take_le ..;omega
theorem Zeq (cl:List UInt8) (ps:List (List UInt8)) (k:Nat):Zbs cl ps (k+1)=Zbs cl ps k++[((cl :: ps)[k]?).getD []]:=by
 unfold Zbs;by_cases h:k<(cl :: ps).length
 ·have h1:((cl :: ps).take (k+1)).length=k+1:=by rw [Yay];omega
  have h2:((cl :: ps).take k).length=k:=by rw [Yay];omega
  rw [h1,h2,Yca,Yca,YaL,Yaa h];simp
 ·have h1:(cl :: ps).take (k+1)=cl :: ps:=Yaw (by omega);have h2:(cl :: ps).take k=cl :: ps:=Yaw (by omega);rw [h1,h2,YaN (by omega),show k+1 - (cl :: ps).length=(k - (cl :: ps).length)+1 by omega,List.replicate_succ',YaW];rfl
structure BgX (w:World) (R O:Nat) (a1:Array Value) (ls:List (List UInt8)) (lv:Value) (W:World):Prop where
 x1:Box W w.heap.size a1 44
 x3:Box W O #[.bool true,.slice none 0 0,lv] 24
 x4:Box W R #[.bool false,.slice none 0 0,.slice none 0 0] 24
 k2:KR (O+1) W lv ls
 bel:Below w.heap.size w W
 hR:w.heap.size<R
 hO:R<O
theorem BgX.app {w:World} {R O:Nat} {a1:Array Value} {ls:List (List UInt8)} {lv:Value} {W:World} (h:BgX w R O a1 ls lv W) (x:List UInt8) (hl:ls.length<=1048576) (ty:TypeId) :
  ∃ v' w',(Builtin.append_ #[22,22] ty #[lv,.slice (some ⟨W.heap.size,0,none⟩) 1 1]).run Tryz.prog (W.alloc (.cells #[.string (S x)] 9))=.ok v' w'/\(∃ ao c,v'=.slice ao (ls.length+1) c)/\w'.cell? ⟨O,2,none⟩=some lv/\w'.frozen? ⟨O,2,none⟩=false/\BgX w R O a1 (ls++[x]) v' (w'.setCell ⟨O,2,none⟩ v'):=by
 have hlt:=h.x3.lt;have hO:=h.hO;have hRR:=h.hR;obtain ⟨v',w',hr,hk',hg⟩:=Zf5 (B:=W.heap.size) x h.k2 hlt hl rfl ty;have hown:∀ g,lv.ownBlock=some g->O+1<=g/\g<W.heap.size:=h.k2.own
 have hno:∀ g,v'.ownBlock=some g->O+1<=g:=fun g e=>by
  rcases hg.came with q|q
  ·exact (hown g (q ▸ e)).1
  ·have:=q g e;omega
 have hx1:=h.x1.keep hg.only (fun e=>by have:=(hown _ e).1;omega);have hx3:=h.x3.keep hg.only (fun e=>by have:=(hown _ e).1;omega);have hx4:=h.x4.keep hg.only (fun e=>by have:=(hown _ e).1;omega);have hb:Below w.heap.size w w':=h.bel.trans (hg.only.below h.bel.size (fun i e=>by have:=(hown _ e).1;omega));have ho:Only (fun i=>i=O) w' (w'.setCell ⟨O,2,none⟩ v'):=(Yan (fun i=>i=O) w').setCell (p:=⟨O,2,none⟩) rfl _;refine ⟨v',w',hr,?_,hx3.cell 2 rfl,hx3.free 2,⟨hx1.keep ho (by omega),hx3.set 2 v',hx4.keep ho (by omega),hk'.keep ho (fun g hg2 e=>by have:=hno g hg2;omega),hb.setCell (by show w.heap.size<=O;omega) _,hRR,hO⟩⟩;obtain ⟨ao,c,e⟩:=hk'.shape;rw [Yak] at e;exact ⟨ao,c,e⟩
theorem ZpE (w:World) (M:Array Value):BgX w (w.heap.size+1) (w.heap.size+1+1) M [] (.slice none 0 0) (((w.alloc (.cells M 44)).alloc (.cells #[.bool false,.slice none 0 0,.slice none 0 0] 24)).alloc (.cells #[.bool true,.slice none 0 0,.slice none 0 0] 24)):=by
 refine ⟨?_,?_,?_,KRF.nil _ _ _ _,Zaa (Zaa (Zaa (Yab _ _) _) _) _,by omega,by omega⟩;all_goals
  unfold Box
  repeat (first|(exact Zaf _ _ _ (by simp))|(with_reducible apply Zaq))
theorem ZiR {A:Nat->Prop} (cl mn mr:List UInt8) (ml:Int) (ma:Bool) (ps:List (List UInt8)) (po co ko:Option Addr) (pc cn cc kn kc:Nat) (w:World) (hp:Src 1 StrR A w (.slice po ps.length pc) ps) (hps:ps.length<=100) (hml:ml<=1000) (hm0:-9223372036854775808<=ml) :
  Calls Tryz.prog 21 #[.string (S cl),.agg #[.string (S mn),.slice po ps.length pc,.string (S mr),.bool ma,.int .i64 ml,.slice co cn cc,.slice ko kn kc]] w (ZgS cl ps ml w):=by
 obtain ⟨n,hn⟩:∃ n,n=ps.length:=⟨_,rfl⟩
 rw [←hn] at hp hps ⊢;have HN:=Hd hn;clear hn;have HX:=Hd (ZpE w #[.string (S mn),.slice po n pc,.string (S mr),.bool ma,.int .i64 ml,.slice co cn cc,.slice ko kn kc]);obtain ⟨m,hm⟩:∃ m:Nat,m=ml.toNat:=⟨_,rfl⟩
 have hm1:m<=1000:=by omega
 have HMM:=Hd hm;clear hm;have HE:=Hd (Src.elem hp);clear hp;go_enter Tryz.func21,Tryz.ntmps21
 go_upto_region 2 with fail
 obtain ⟨w3,hw3⟩:∃ V,V=(((w.alloc (.cells #[.string (S mn),.slice po n pc,.string (S mr),.bool ma,.int .i64 ml,.slice co cn cc,.slice ko kn kc] 44)).alloc (.cells #[.bool false,.slice none 0 0,.slice none 0 0] 24)).alloc (.cells #[.bool true,.slice none 0 0,.slice none 0 0] 24)):=⟨_,rfl⟩
 rw [←hw3] at HX ⊢;clear hw3;go_wp2
 go_loopw [6] (fun v6 wr=>∃ (k:Nat) (lv:Value),k<=m/\v6=.int .i64 k/\BgX w (w.heap.size+1) (w.heap.size+1+1) #[.string (S mn),.slice po n pc,.string (S mr),.bool ma,.int .i64 ml,.slice co cn cc,.slice ko kn kc] (Zbs cl ps k) lv wr) (fun v6 _=>m - (intOf v6).toNat)
 case atStart=>exact ⟨0,_,Yai _,rfl,HX.o⟩
 case round=>
  obtain ⟨k,lv,hk,rfl,hmx⟩:=hrel;have HM:=Hd hmx;clear hmx HX;have c4:=HM.o.x1.cell 4 rfl;obtain ⟨so,sc,hlv⟩:=HM.o.k2.shape;rw [Zcc] at hlv;subst hlv;by_cases hlt:k<m
  ·have q1:(k:Int)<ml:=by have:=HMM.o;omega
   have q2:(k:Int)<1000:=by omega
   have c8:=HM.o.x3.cell 2 rfl;by_cases hk0:k=0
   ·have hki:(k:Int)=0:=by omega
    obtain ⟨v2,w5,hr5,⟨ao2,ac2,rfl⟩,c7,f7,m7⟩:=HM.o.app cl (by rw [Zcc];omega) 22;rw [Zcc] at hr5 m7;have HSX:Hid (Zbs cl ps k++[cl]=Zbs cl ps (k+1)):=Hd (by rw [Zeq];rw [hk0];rfl);rw [HSX.o] at m7;clear hk0;have HR5:=Hd hr5;have M7:=Hd m7;clear m7 HM hr5 HE HSX HN HMM
    go_wp2_with (at_builtin;(refine Zak rfl _ _ 22 rfl _ _ (.slice ao2 (k+1) ac2) w5 rfl rfl HR5.o ?_))
    go_wp2
    go_roundw
    case rel=>exact ⟨k+1,_,by omega,by go_num,M7.o⟩
    case measure=>simp [intOf];omega
   obtain ⟨j,hj⟩:∃ j,k=j+1:=⟨k - 1,by omega⟩
   have HJ:=Hd hj;have hki:¬ ((k:Int)=0):=by omega
   have e1:IntKind.i64.wrap ((k:Int) - 1)=(j:Int):=by simp only [IntKind.wrap_i64];omega
   have c1:=HM.o.x1.cell 1 rfl;by_cases hkn:k<=n
   ·obtain ⟨x,hx⟩:∃ x,ps[j]? = some x:=⟨_,Yaa (by rw [←HN.o];omega)⟩
    obtain ⟨b1,o1,u1,rfl,hu1,_,hc1⟩:=HE.o j x hx;obtain rfl:=hu1;have d1:wr.cell? ⟨b1,o1+j,none⟩=some (.string (S x)):=(Yad (S:=fun _=>False) HM.o.bel).cell (a:=⟨b1,o1+j,none⟩) (by have p:=hc1 0 _ rfl;rw [YaG] at p;exact p) id;have i0:(k:Int)<=(n:Int):=by omega
    have i1:(0:Int)<=(j:Int):=by omega
    have i2:(j:Int)<(n:Int):=by omega
    have HXX:=Hd hx;clear hc1 hx hkn hk0 hj;obtain ⟨v2,w5,hr5,⟨ao2,ac2,rfl⟩,c7,f7,m7⟩:=HM.o.app x (by rw [Zcc];omega) 22;rw [Zcc] at hr5 m7;have HSX:Hid (Zbs cl ps k++[x]=Zbs cl ps (k+1)):=Hd (by rw [Zeq];rw [HJ.o,Yb0,HXX.o];rfl);rw [HSX.o] at m7;have HR5:=Hd hr5;have M7:=Hd m7;clear m7 HM hr5 HE HSX HN HMM
    go_wp2_with (at_builtin;(refine Zak rfl _ _ 22 rfl _ _ (.slice ao2 (k+1) ac2) w5 rfl rfl HR5.o ?_))
    go_wp2
    go_roundw
    case rel=>exact ⟨k+1,_,by omega,by go_num,M7.o⟩
    case measure=>simp [intOf];omega
   have i0:¬ (k:Int)<=(n:Int):=by omega
   have hse:S ([]:List UInt8)=⟨#[]⟩:=rfl;have HJN:Hid (ps[j]? = none):=Hd (YaN (by rw [←HN.o];omega));clear hkn hk0 hj;obtain ⟨v2,w5,hr5,⟨ao2,ac2,rfl⟩,c7,f7,m7⟩:=HM.o.app [] (by rw [Zcc];omega) 22;rw [Zcc] at hr5 m7;have HSX:Hid (Zbs cl ps k++[[]]=Zbs cl ps (k+1)):=Hd (by rw [Zeq];rw [HJ.o,Yb0,HJN.o];rfl);rw [HSX.o] at m7;rw [hse] at hr5;have HR5:=Hd hr5;have M7:=Hd m7;clear m7 HM hr5 HE HSX HN HMM
   go_wp2_with (at_builtin;(refine Zak rfl _ _ 22 rfl _ _ (.slice ao2 (k+1) ac2) w5 rfl rfl HR5.o ?_))
   go_wp2
   go_roundw
   case rel=>exact ⟨k+1,_,by omega,by go_num,M7.o⟩
   case measure=>simp [intOf];omega
  ·obtain rfl:m=k:=by omega
   have q1:¬ (m:Int)<ml:=by have:=HMM.o;omega
   have X:=Hd HM.o.x4;have HB:=Hd HM.o.bel;have d0:=HM.o.x3.cell 0 rfl;have d1:=HM.o.x3.cell 1 rfl;have d2:=HM.o.x3.cell 2 rfl;have HK:=Hd HM.o.k2;clear HM HE;obtain ⟨w7,hw7⟩:∃ V,V=wr:=⟨_,rfl⟩
   rw [←hw7] at X HB d0 d1 d2 HK c4 ⊢;clear hw7;obtain ⟨Wf,hWf⟩:∃ V,V=(((w7.setCell ⟨w.heap.size+1,0,none⟩ (.bool true)).setCell ⟨w.heap.size+1,1,none⟩ (.slice none 0 0)).setCell ⟨w.heap.size+1,2,none⟩ (.slice so m sc)):=⟨_,rfl⟩
   have ho:Only (fun i=>i=w.heap.size+1) w7 Wf:=by rw [hWf];exact (((Yan (fun i=>i=w.heap.size+1) w7).setCell (p:=⟨w.heap.size+1,0,none⟩) rfl _).setCell (p:=⟨w.heap.size+1,1,none⟩) rfl _).setCell (p:=⟨w.heap.size+1,2,none⟩) rfl _
   have XF:Box Wf (w.heap.size+1) #[.bool true,.slice none 0 0,.slice so m sc] 24:=by rw [hWf];exact ((X.o.set 0 (.bool true)).set 1 (.slice none 0 0)).set 2 (.slice so m sc)
   have HBF:=Hd (HB.o.trans (ho.below HB.o.size (fun i hi=>by omega)));have HS:=Hd (KRF.src Zbc (HK.o.keep ho (fun g hg e=>by have:=(HK.o.own g hg).1;omega)));have l:=ZaD (P:=Tryz.prog) XF Tryz.underlying24 rfl Zbj;have r0:=X.o.cell 0 rfl;have r1:=X.o.cell 1 rfl;have r2:=X.o.cell 2 rfl;have z0:=X.o.free 0;have z1:=X.o.free 1;have z2:=X.o.free 2;clear XF ho HK HB X;go_wp2;rw [←hWf];refine bodyPost_ret (v:=.agg #[.bool true,.slice none 0 0,.slice so m sc]) ?_ rfl ⟨_,rfl,?_,HBF.o⟩
   ·simp [results,Tryz.results21,asAddr,l]
   ·rw [←HMM.o];exact ⟨_,_,rfl,Src.nil,StrR.st.any HS.o⟩
