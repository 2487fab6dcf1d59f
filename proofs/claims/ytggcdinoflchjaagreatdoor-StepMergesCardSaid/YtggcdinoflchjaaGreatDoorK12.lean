/- laws -/
import Derived.Lib.AppendZeros
import Derived.Test.YtggcdinoflchjaaGreatDoorK10
set_option maxRecDepth 100000
set_option maxHeartbeats 16000000
namespace Go.Proofs.YtggcdinoflchjaaGreatDoor
open Go.RowKit
def SlR {α:Type} (n:Nat) (R:Zaq α):Zaq (List α):=fun A w l v=>Src n R A w v l
theorem ZbK {P:Program} (w:World) (t ty e:TypeId) (i:TypeInfo) (size:Nat) (ht:P.underlying t=some (.slice e)) (hi:P.info? e=some i)
  (v:Value) (n:Nat) (xs:List Value) (hown:w.ownsRow 0 e size v n xs) (A:Option Addr) (c:Nat):(Builtin.append_ #[t,t] ty #[v,.slice A 0 c]).run P w=.ok v w:=by
 rcases hown.2 with ⟨rfl,rfl⟩|⟨g,cap,cur,rfl,_,hg,hnc,_,hcs,htake⟩
 ·cases A <;> simp [Builtin.append_,run_underlying ht,sizeOf,typeInfo,hi,Builtin.lenOf,Builtin.firstCells,loadCells,loadCellsFrom]
 ·cases A <;> simp [Builtin.append_,run_underlying ht,sizeOf,typeInfo,hi,Builtin.lenOf,Builtin.firstCells,hnc,storeCells,loadCells,loadCellsFrom]
theorem ZoY {α:Type} {f:α->Value} (h1:∀ x,(f x).cells=#[f x]) {A:Nat->Prop} {w:World} {b o:Nat} {l:List α} (h:∀ k x,l[k]? = some x->∃ v,Flat f A w x v/\v.cells.size=1/\∀ j u,v.cells[j]? = some u->w.cell? ⟨b,o+k * 1+j,none⟩=some u) :
  ∀ j u,(l.map f)[j]? = some u->w.cell? ((⟨b,o,none⟩:Addr).add j)=some u:=by
 intro j u hj;rw [Yaw] at hj;cases hx:l[j]? with
 | none=>rw [hx] at hj;cases hj
 | some x=>
  rw [hx] at hj;cases hj
  obtain ⟨v,rfl,_,hc⟩:=h j x hx;have:=hc 0 (f x) (by rw [h1];rfl);rw [Ybq];rw [YaC,Ycf] at this;exact this
theorem ZlK {α:Type} {f:α->Value} (h1:∀ x,(f x).cells=#[f x]) {t:TypeId} {w:World} {v:Value} {l:List α} (h:w.ownsRow 0 t 1 v (l.map f).length (l.map f)):Src 1 (Flat f) Anyw w v l:=by
 rcases h.2 with ⟨rfl,h0⟩|⟨g,cap,cur,rfl,hb,hgg,hnc,hcm,_⟩
 ·exact .inl ⟨_,_,rfl,List.eq_nil_of_length_eq_zero (by simpa using h0)⟩
 ·refine .inr ⟨g,0,cap,by rw [YaB],⟨trivial,lt_of_block hgg,by rw [YaB] at hnc;exact hnc,hcm⟩,fun k x hx=>⟨_,rfl,by rw [h1];rfl,fun j u hj=>?_⟩⟩;rw [h1] at hj;have hj0:j=0:=by
   rcases YbI j with h|h
   ·exact h
   ·rw [Array.getElem?_eq_none (by simp;omega)] at hj;cases hj
  subst hj0;have hu:u=f x:=by simpa using hj.symm
  subst hu;have hc:=h.cells (g:=g) rfl k (f x) (by rw [Yaw,hx];rfl);rw [Ybq] at hc;rw [YaC,Ycf];exact hc
theorem ZeZ {α:Type} (ls:List (List α)) (k:Nat) (x:List α) (h:ls[k]? = some x):(ls.take (k+1)).flatten=(ls.take k).flatten++x:=by
 rw [YaI,h];simp
theorem Zgi {α:Type} (ls:List (List α)) (k:Nat):(ls.take k).flatten.length<=ls.flatten.length:=by
 conv=>rhs;rw [←Ya2 k ls,List.flatten_append,Yal]
 omega
def preN {α:Type} (ls:List (List α)) (k:Nat):Nat:=(ls.take k).flatten.length
def preV {α:Type} (f:α->Value) (ls:List (List α)) (k:Nat):List Value:=(ls.take k).flatten.map f
def ZpR (t:TypeId) (xs:List Value) (w:World) (e:Ending) (w':World):Prop:=∃ v,e=.returned v/\w'.ownsRow 0 t 1 v xs.length xs/\(∀ g,v.ownBlock=some g->w.heap.size<=g)/\Below w.heap.size w w'
theorem Zee {w:World} {e:TypeId} {size:Nat} {v:Value} {n:Nat} {xs:List Value} (h:w.ownsRow 0 e size v n xs):∃ ao m c,v=.slice ao m c:=by
 rcases h.2 with ⟨rfl,_⟩|⟨g,cap,cur,rfl,_⟩
 ·exact ⟨_,_,_,rfl⟩
 ·exact ⟨_,_,_,rfl⟩
theorem ZgX:(Tryz.prog.info? 9).map (fun i=>(i.zero,i.size,i.bytes))=some (some (.string ⟨#[]⟩),1,16):=by kernel_rfl
theorem ZoZ (n:Nat) (w:World) (hn:n * 16<=140737488355328) :
  Calls Tryz.prog 204 #[.slice none 0 0,.int .i64 (n:Nat)] w fun e w'=>∃ v,e=.returned v/\w'.ownsRow 0 9 1 v 0 []/\(∀ g,v.ownBlock=some g->w.heap.size<=g)/\Below w.heap.size w w':=by
 obtain ⟨j0,hji,hz0,hz1,hz2⟩:=info_parts ZgX;have hn2:(n:Int)<=140737488355328:=by omega
 have hn0:(0:Int)<=(n:Int):=by omega
 by_cases h0:n=0
 ·subst h0;go_enter Tryz.func204,Tryz.ntmps204;go_wp2;go_ret;exact ⟨_,rfl,World.ownsRow_nil _ _ _ _,fun g hg=>by simp [Value.ownBlock] at hg,Yab _ _⟩
 ·have hpos:0<(n:Int):=by omega
  have HR:=Hd (fun ty=>Lib.run_append_nil_zeros (P:=Tryz.prog) w 22 3 ty 9 j0 (.string ⟨#[]⟩) .i64 .i64 Tryz.underlying22 Tryz.underlying3 hji hz0 n (by omega) (by rw [hz1];decide) (by omega) (by rw [hz2];omega));have hge:=grownCap_ge w n 0 9;have hcm:grownCap w n 0 9<=maxLen:=grownCap_le_maxLen w _ 0 9 (by unfold maxLen;omega);have hcz:(Builtin.zeroCells (.string ⟨#[]⟩:Value).cells n++Builtin.zeroCells (.string ⟨#[]⟩:Value).cells (grownCap w n 0 9 - n)).size=grownCap w n 0 9:=by
   rw [Array.size_append,size_zeroCells,size_zeroCells,show (.string ⟨#[]⟩:Value).cells.size=1 from rfl];omega
  have HGE:=Hd hge;have HCM:=Hd hcm;have HCZ:=Hd hcz;clear hge hcm hcz hji hz0 hz1 hz2;generalize grownCap w n 0 9=gc at *;generalize (Builtin.zeroCells (.string ⟨#[]⟩:Value).cells n++Builtin.zeroCells (.string ⟨#[]⟩:Value).cells (gc - n))=zs at *;have hgc:(0:Int)<=(gc:Int):=by omega
  go_enter Tryz.func204,Tryz.ntmps204
  go_wp2_with (at_builtin;refine Lib.wpList_append_run _ rfl _ _ 22 3 rfl (.slice none 0 0) (.int .i64 (n:Nat)) rfl rfl _ _ (HR.o _) ?_)
  go_ret;refine ⟨_,rfl,⟨rfl,.inr ⟨w.heap.size,gc,zs,rfl,Yai _,heap_alloc_new w.drew _,Yai _,HCM.o,by rw [HCZ.o,YaC],by simp⟩⟩,fun g hg=>by simp [Value.ownBlock] at hg;omega,(Yab _ w).drew.alloc (Yac _) _⟩
theorem Zkw {A:Nat->Prop} (ls:List (List (List UInt8))) (sv:Value) (w:World) (hs:Src 1 (SlR 1 StrR) A w sv ls) (hlim:ls.flatten.length * 16<=140737488355328) (hln:ls.length<=1048576) :
  Calls Tryz.prog 148 #[sv] w (ZpR 9 (ls.flatten.map strV) w):=by
 obtain ⟨X,hX⟩:∃ X,X=ls.flatten.map strV:=⟨_,rfl⟩
 rw [←hX];have HX:=Hd hX;clear hX;obtain ⟨tot,htot⟩:∃ tot,tot=ls.flatten.length:=⟨_,rfl⟩
 have HTE:=Hd htot;have HTOT:Hid (tot * 16<=140737488355328):=Hd (by rw [htot];exact hlim);clear htot;obtain ⟨j0,hji,hz0,hz1,hz2⟩:=info_parts ZgX;have HSRC:=Hd hs;have HLIM:=Hd hlim;obtain ⟨n,hnn⟩:∃ n,n=ls.length:=⟨_,rfl⟩
 obtain ⟨so,sc,rfl⟩:∃ so sc,sv=.slice so n sc:=by rw [hnn];exact hs.shape
 rw [←hnn] at hln;have HN:=Hd hnn;clear hnn;have HEL:Hid (∀ k:Nat,k<n->∃ (b o:Nat) (x:List (List UInt8)) (v:Value),so=some ⟨b,o,none⟩/\ls[k]? = some x/\Src 1 StrR A w v x/\w.cell? ⟨b,o+k,none⟩=some v):=Hd (fun k hk=>by
  rcases hs with ⟨ao,cp0,he,rfl⟩|⟨b,o,cap,he,_,hc⟩
  ·simp at he
   omega
  ·simp at he
   have hkl:k<ls.length:=by omega
   obtain ⟨v,hv,hsz,hcl⟩:=hc k _ (Yaa hkl);refine ⟨b,o,_,v,he.1,Yaa hkl,hv,?_⟩;have:=hcl 0 v (by obtain ⟨ao,cp,rfl⟩:=Src.shape hv;rfl);rw [YaC,Ycf] at this;exact this)
 clear hs hlim;have hz:ls.flatten.length<=140737488355328:=by have:=HLIM.o;omega
 have HZ:=Hd hz;clear hz;go_enter Tryz.func148,Tryz.ntmps148;go_wp2
 go_loop [3,11] (fun v3 v11=>∃ k:Nat,k<=n/\v11=.int .i64 k/\v3=.int .i64 (preN ls k:Nat)) (fun _ v11=>n - (intOf v11).toNat)
 case atStart=>exact ⟨0,Yai _,rfl,rfl⟩
 case round=>
  obtain ⟨k,hk,rfl,rfl⟩:=hrel;by_cases hlt:k<n
  ·obtain ⟨b,o,x,v,rfl,hx,hv,hc⟩:=HEL.o k hlt;obtain ⟨ao,cp,rfl⟩:=hv.shape;have hfs:=Ya5 List.length (ZeZ ls k x hx);rw [Yal] at hfs
   change preN ls (k+1)=preN ls k+x.length at hfs
   have hle:preN ls (k+1)<=ls.flatten.length:=Zgi ls (k+1);have hzz:=HZ.o;obtain ⟨t,ht⟩:∃ t,t=preN ls k:=⟨_,rfl⟩
   rw [←ht] at hfs ⊢;have HFS:=Hd hfs;have hb1:(t:Int)+(x.length:Int)<=140737488355328:=by omega
   have ht0:(0:Int)<=(t:Int):=by omega
   have hx0:(0:Int)<=(x.length:Int):=by omega
   have hk0:(0:Int)<=k:=by omega
   have hkn:(k:Int)<(n:Int):=by omega
   clear hfs hle hzz hv hx ht;generalize x.length=m at *;go_wp2
   go_round
   case rel=>exact ⟨k+1,by omega,by go_num,by rw [HFS.o];go_num⟩
   case measure=>simp [intOf];omega
  ·obtain rfl:k=n:=by omega
   have hfa:preN ls k=tot:=by rw [HTE.o];unfold preN;rw [Yay (by rw [HN.o];exact Yac _)]
   rw [hfa];clear hfa
   go_wp2_with fail
   with_reducible refine (ZoZ tot w HTOT.o).mono ?_
   rintro e w1 ⟨v0,rfl,hw1,ho1,hb1⟩;obtain ⟨ao0,m0,c0,hv0⟩:=Zee hw1;have HW1:=Hd hw1;have HO1:=Hd ho1;have HB1:=Hd hb1;clear hw1 ho1 hb1;subst hv0;go_wp2
   go_loopw [6,27] (fun v6 v27 wr=>∃ i:Nat,i<=k/\v27=.int .i64 i/\wr.ownsRow 0 9 1 v6 (preV strV ls i).length (preV strV ls i)/\(∀ g,v6.ownBlock=some g->w.heap.size<=g)/\Below w.heap.size w wr) (fun _ v27 _=>k - (intOf v27).toNat)
   case atStart=>exact ⟨0,Yai _,rfl,HW1.o,HO1.o,HB1.o⟩
   case round=>
    obtain ⟨i,hi,rfl,hown,hog,hbw⟩:=hrel;obtain ⟨ao6,m6,c6,hv6⟩:=Zee hown;subst hv6;have HOWN:=Hd hown;have HOG:=Hd hog;have HBW:=Hd hbw;clear hown hog hbw;by_cases hlt2:i<k
    ·obtain ⟨b,o,x,v,rfl,hx,hv,hc⟩:=HEL.o i hlt2;have hoW:=Yaf (S:=fun _=>False) HBW.o;have hcW:=hoW.cell hc id;have hfs:=ZeZ ls i x hx;have hle:=Zgi ls (i+1);have HRUN:Hid (∀ ty,∃ v' w',(Builtin.append_ #[22,22] ty #[.slice ao6 m6 c6,v]).run Tryz.prog wr=.ok v' w'/\w'.ownsRow 0 9 1 v' (preV strV ls (i+1)).length (preV strV ls (i+1))/\Grew wr (.slice ao6 m6 c6) w' v'):=Hd (fun ty=>by
      have hps:preV strV ls (i+1)=preV strV ls i++x.map strV:=by unfold preV;rw [hfs,Ybb]
      have hpl:(preV strV ls i).length=(ls.take i).flatten.length:=by unfold preV;rw [YaB]
      rw [hps,Yal];rcases hv with ⟨ao,cp,rfl,rfl⟩|⟨b2,o2,cap2,rfl,_,hcc⟩
      ·refine ⟨_,_,ZbK _ _ ty _ j0 1 Tryz.underlying22 hji _ _ _ HOWN.o ao cp,?_,Grew.refl _ _⟩;simp only [Ycs,Ya3,List.length_nil,Ycf];exact HOWN.o
      ·have hb2:(ls.take i).flatten.length+x.length<=ls.flatten.length:=by rw [←Yal,←hfs];exact hle
       have hlm:=HLIM.o;have hcells:=ZoY (f:=strV) (fun _=>rfl) hcc;have hr:=Zbr (P:=Tryz.prog) wr 22 ty 9 j0 (.string ⟨#[]⟩) 1 16 Tryz.underlying22 hji hz0 hz1 hz2 rfl (by decide) _ _ _ HOWN.o ⟨b2,o2,none⟩ x.length cap2 (x.map strV) (by simp)
        (fun j u hj=>hoW.cell (hcells j u hj) id) (fun u hu=>by obtain ⟨y,_,rfl⟩:=Ybc.1 hu;rfl) (by rw [hpl];unfold maxLen;omega) (by rw [hpl];omega)
       rw [YaB];exact hr)
     have hshape:∃ ao cp,v=.slice ao x.length cp:=hv.shape
     obtain ⟨ao,cp,rfl⟩:=hshape;have hi0:(0:Int)<=i:=by omega
     have hin:(i:Int)<(k:Int):=by omega
     clear hc hv hx hoW hfs hle
     go_wp2_with (at_builtin;(obtain ⟨v',w',hrun,hown',hgrow⟩:=HRUN.o _;refine Zap rfl _ _ 22 rfl _ _ v' w' rfl rfl hrun ?_))
     have hog':∀ g,v'.ownBlock=some g->w.heap.size<=g:=fun g hg=>by
      rcases hgrow.came with e|e
      ·exact HOG.o g (e ▸ hg)
      ·exact Yan HBW.o.size (e g hg)
     have hbw':Below w.heap.size w w':=HBW.o.trans (hgrow.only.below HBW.o.size (fun q hq=>HOG.o q hq));have HOWN':=Hd hown';have HOG':=Hd hog';have HBW':=Hd hbw';clear hown' hog' hbw' hgrow hrun hcW;go_wp2
     go_roundw
     case rel=>exact ⟨i+1,by omega,by go_num,HOWN'.o,HOG'.o,HBW'.o⟩
     case measure=>simp [intOf];omega
    ·obtain rfl:i=k:=by omega
     have hfin:wr.ownsRow 0 9 1 (.slice ao6 m6 c6) X.length X:=by
      have h:=HOWN.o;unfold preV at h;rw [Yay (by rw [HN.o];exact Yac _),←HX.o] at h;exact h
     have HF:=Hd hfin;clear hfin;go_wp2;go_ret;exact ⟨_,rfl,HF.o,HOG.o,HBW.o⟩
theorem Zb1 {A:Nat->Prop} {w:World} {c:Cls} {v:Value} (h:ClsR A w c v):∃ lv fv mv,v=.agg #[.string (S c.name),.string (S c.sup),lv,.bool c.itf,.bool c.abs,.bool c.fin,fv,mv]/\(∃ lo lc,lv=.slice lo c.like.length lc)/\(∃ fo fc,fv=.slice fo c.flds.length fc)/\∃ mo mc,mv=.slice mo c.mths.length mc:=by
 obtain ⟨pv,cv,kv,rfl,h1,h2,h3⟩:=h;exact ⟨pv,cv,kv,rfl,h1.shape,h2.shape,h3.shape⟩
