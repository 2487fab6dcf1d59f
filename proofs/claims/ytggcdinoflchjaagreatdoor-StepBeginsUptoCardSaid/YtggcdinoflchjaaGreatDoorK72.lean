/- laws -/
import Derived.Test.YtggcdinoflchjaaGreatDoorK32
import Derived.Deep.RegionLaw
set_option maxRecDepth 100000
set_option maxHeartbeats 16000000
namespace Go.Proofs.YtggcdinoflchjaaGreatDoor
open Go.RowKit
theorem Zaq {w:World} {k:Nat} {x:Obj} (o:Obj) (h:w.heap[k]? = some x):(w.alloc o).heap[k]? = some x:=((Yan (fun _=>False) _).alloc _).heap h id
theorem Zco {α:Type} {n:Nat} {R:Zao α} {w:World} {b:Nat} {t:TypeId} (xs:List α) (us:List Value) (m:Nat) (cs:Array Value) (hm:m=xs.length) (hl:us.length=xs.length) (hmax:xs.length<=9223372036854775807)
  (hR:∀ (k:Nat) x u,xs[k]? = some x->us[k]? = some u->R Anyw w x u) (hsz:∀ u ∈ us,u.cells.size=n) (hc:cs=(ZaM us).toArray) (hb:w.heap[b]? = some (.cells cs t (0,0))):Src n R Anyw w (.slice (some ⟨b,0,none⟩) m m) xs:=by
 subst hm hc;refine .inr ⟨b,0,xs.length,rfl,⟨trivial,lt_of_block hb,Yac _,hmax⟩,fun k x hx=>?_⟩;have hk:k<us.length:=by rw [hl];exact (Yag.1 hx).1
 have hu:us[k]? = some us[k]:=Yaa hk;refine ⟨us[k],hR k x _ hx hu,hsz _ (Ycc hk),fun j q hq=>?_⟩;have hj:=ZcR (hsz _ (Ycc hk)) hq;unfold World.cell?;rw [hb];show (ZaM us).toArray[0+k * n+j]? = some q
 rw [Ybc,List.getElem?_toArray,ZcA us k j _ hsz hu hj];exact hq
theorem ZcX {w:World} {a:Addr} {v:Value} (h:w.cell? a=some v):w.setCell a v=w:=by
 have hh:(w.setCell a v).heap=w.heap:=by
  refine Yci (fun i=>?_);by_cases hi:i=a.block
  ·subst hi;unfold World.cell? at h;cases hb:w.heap[a.block]? with
   | none=>rw [hb] at h;cases h
   | some o=>
    rw [hb] at h;cases o with
    | cells cs t f=>
     simp only at h;unfold World.setCell;simp only [Array.getElem?_modify,hb,YaC trivial,YbS];cases hs:a.spot.isSome with
     | true=>rw [hs] at h;cases h
     | false=>
      rw [hs] at h;have h2:cs[a.off]? = some v:=h;have:cs.setIfInBounds a.off v=cs:=by
       refine Yci (fun j=>?_);rw [YaD];by_cases hj:a.off=j
       ·subst hj;rw [YaC rfl];obtain ⟨h3,h4⟩:=Ybu.1 h2;rw [YaC h3,h2]
       ·rw [Yas hj]
      simp [this]
    | _=>cases h
  ·exact heap_setCell_other w a i v hi
 unfold World.setCell at hh ⊢;obtain ⟨hp,tp,dr,os,out⟩:=w;simp only at hh ⊢;rw [hh]
def KRF {α:Type} (f:α->Value) (t:TypeId) (lo:Nat) (w:World) (v:Value) (l:List α):Prop:=w.ownsRow lo t 1 v l.length (l.map f)
abbrev KR (lo:Nat) (w:World) (v:Value) (l:List (List UInt8)):Prop:=KRF strV 9 lo w v l
theorem Zig {α:Type} {f:α->Value} (hf:∀ x,(f x).cells=#[f x]) (l:List α):ZaM (l.map f)=l.map f:=by
 induction l with
 | nil=>rfl
 | cons x l ih=>
  unfold ZaM at ih ⊢;rw [YbJ,Yb4,ih,hf];rfl
theorem ZjC {w:World} {base lo:Nat} {e:TypeId} {size:Nat} {v:Value} {n:Nat} {xs:List Value} (h:w.ownsRow base e size v n xs) (hlo:∀ g,v.ownBlock=some g->lo<=g):w.ownsRow lo e size v n xs:=by
 refine ⟨h.1,?_⟩;rcases h.2 with h2|⟨g,cap,cur,hv,_,rest⟩
 ·exact .inl h2
 ·exact .inr ⟨g,cap,cur,hv,hlo g (by rw [hv];rfl),rest⟩
section
variable {α:Type} {f:α->Value} {t:TypeId} {lo:Nat} {w w':World} {v:Value} {l:List α}
theorem KRF.own (h:KRF f t lo w v l):∀ g,v.ownBlock=some g->lo<=g/\g<w.heap.size:=World.ownsRow.lt h
theorem KRF.mono {lo':Nat} (h:KRF f t lo w v l) (hl:lo'<=lo):KRF f t lo' w v l:=ZcV h hl
theorem KRF.nil (f:α->Value) (t:TypeId) (lo:Nat) (w:World):KRF f t lo w (.slice none 0 0) []:=World.ownsRow_nil _ _ _ _
theorem KRF.empty (f:α->Value) (t:TypeId) (lo:Nat) (w:World) (h:lo<=w.heap.size):KRF f t lo (w.alloc (.cells #[] t)) (.slice (some ⟨w.heap.size,0,none⟩) 0 0) []:=
 ⟨by simp,.inr ⟨w.heap.size,0,#[],rfl,h,heap_alloc_new w _,Yac _,Yai _,by simp,by simp⟩⟩
theorem KRF.shape (h:KRF f t lo w v l):∃ ao c,v=.slice ao l.length c:=by
 rcases h.2 with ⟨rfl,h0⟩|⟨g,cap,cur,rfl,_⟩
 ·exact ⟨_,_,by rw [h0]⟩
 ·exact ⟨_,_,rfl⟩
theorem KRF.keep {S:Nat->Prop} (h:KRF f t lo w v l) (ho:Only S w w') (hS:∀ g,v.ownBlock=some g->¬ S g):KRF f t lo w' v l:=ho.row h hS
theorem KRF.below (h:KRF f t lo w v l) (hb:Below w.heap.size w w'):KRF f t lo w' v l:=h.keep (Yad (S:=fun _=>False) hb) (fun _ _=>id)
theorem KRF.src (hf:∀ x,(f x).cells=#[f x]) (h:KRF f t lo w v l):Src 1 (Flat f) (fun k=>lo<=k) w v l:=by
 rcases h.2 with ⟨rfl,h0⟩|⟨g,cap,cur,rfl,hb,hg,hnc,hcm,hcs,ht⟩
 ·exact .inl ⟨_,_,rfl,YaY.1 h0⟩
 ·refine .inr ⟨g,0,cap,rfl,⟨hb,lt_of_block hg,hnc,hcm⟩,fun k x hx=>⟨f x,rfl,by rw [hf];rfl,fun j u hj=>?_⟩⟩;rw [hf] at hj;have hj0:j=0:=by have:j < #[f x].size:=(Ybu.1 hj).1;simpa using this
  subst hj0;have hu:u=f x:=by simpa using hj.symm
  subst hu;have hc:=World.ownsRow.cells (g:=g) h rfl k (f x) (by rw [Yau,hx];rfl);rw [Ybo] at hc;rw [YaG];exact hc
theorem KRF.free (h:KRF f t lo w v l):∀ g o n c,v=.slice (some ⟨g,o,none⟩) n c->∀ m,w.frozen? ⟨g,m,none⟩=false:=by
 intro g o n c hv m;rcases h.2 with ⟨rfl,_⟩|⟨g',cap,cur,rfl,hb,hg,_⟩
 ·cases hv
 ·simp only [Value.slice.injEq,Yba,YbF] at hv;obtain ⟨⟨rfl,_⟩,_⟩:=hv;exact frozen_of_row w _ m cur t hg
theorem KRF.there (h:KRF f t lo w v l) (hl:0<l.length):∃ g c,v=.slice (some ⟨g,0,none⟩) l.length c/\l.length<=c/\c<=9223372036854775807:=by
 rcases h.2 with ⟨_,h0⟩|⟨g,cap,cur,rfl,hb,hg,hnc,hcm,_⟩
 ·omega
 ·exact ⟨g,cap,rfl,hnc,hcm⟩
theorem KRF.take {ao:Option Addr} {n c:Nat} (h:KRF f t lo w (.slice ao n c) l) (k:Nat) (hk:k<=l.length):KRF f t lo w (.slice ao k c) (l.take k):=by
 have hlen:(l.take k).length=k:=by rw [Yay];omega
 refine ⟨by rw [Yaz,YaG],?_⟩;rcases h.2 with ⟨hv,h0⟩|⟨g,cap,cur,hv,hb,hg,hnc,hcm,hcs,ht⟩
 ·left
  simp only [Value.slice.injEq] at hv;obtain ⟨rfl,_,rfl⟩:=hv;have h0':k=0:=by omega
  subst h0';exact ⟨rfl,by simp⟩
 ·right
  simp only [Value.slice.injEq] at hv;obtain ⟨rfl,_,rfl⟩:=hv;refine ⟨g,c,cur,by rw [hlen],hb,hg,by rw [hlen];omega,hcm,hcs,?_⟩;rw [hlen,YaG];rw [YaG] at ht;rw [List.map_take,←ht,Ycy,Ybe hk]
variable {P:Program}
theorem KRF.append {b o m c:Nat} {xs:List α} (h1:∀ x,(f x).oneCell'=true) (s ty:TypeId) (i:TypeInfo) (z:Value) (bytes:Nat)
  (ht:P.underlying s=some (.slice t)) (hi:P.info? t=some i) (hz:i.zero=some z) (hsize:i.size=1) (hby:i.bytes=bytes) (hzs:z.cells.size=1) (h:KRF f t lo w v l) (hlo:lo<=w.heap.size)
  (hm:m=xs.length) (hc:∀ k x,xs[k]? = some x->w.cell? ⟨b,o+k,none⟩=some (f x)) (hlim:(l.length+xs.length) * bytes<=140737488355328) (h63:l.length+xs.length<=9223372036854775807) :
  ∃ v' w',(Builtin.append_ #[s,s] ty #[v,.slice (some ⟨b,o,none⟩) m c]).run P w=.ok v' w'/\KRF f t lo w' v' (l++xs)/\Grew w v w' v':=by
 subst hm;obtain ⟨v',w',hr,hrow,hg⟩:=Zbi (P:=P) w s ty t i z 1 bytes ht hi hz hsize hby hzs (by decide) v l.length (l.map f) (ZcV h (Yai _)) ⟨b,o,none⟩ xs.length c (xs.map f) (by rw [Yaz,YaG])
  (fun j u hj=>by
   rw [Yau] at hj;obtain ⟨x,hx,rfl⟩:=YaU.1 hj;rw [Ybo];exact hc j x hx) (fun u hu=>by obtain ⟨x,_,rfl⟩:=Ya6.1 hu;exact h1 x) (by unfold maxLen;omega) hlim
 refine ⟨v',w',hr,?_,hg⟩;refine ZjC (base:=0) ?_ (fun g hgo=>?_)
 ·rw [Yak,Ya4];exact hrow
 ·rcases hg.came with e|e
  ·rw [e] at hgo;exact (h.own g hgo).1
  ·exact Yaq hlo (e g hgo)
end
theorem Zbc (x:List UInt8):(strV x).cells=#[strV x]:=rfl
theorem Zel (x:List UInt8):(strV x).oneCell'=true:=rfl
theorem ZcD:(Tryz.prog.info? 9).map (fun i=>(i.zero,i.size,i.bytes))=some (some (.string ⟨#[]⟩),1,16):=by kernel_rfl
theorem ZqN {lo B:Nat} {W:World} {v:Value} {l:List (List UInt8)} (z:List UInt8) (h:KR lo W v l) (hlo:lo<=W.heap.size) (hl:l.length<=1048576) (hB:B=W.heap.size) (ty:TypeId) :
  ∃ v' w',(Builtin.append_ #[22,22] ty #[v,.slice (some ⟨B,0,none⟩) 1 1]).run Tryz.prog (W.alloc (.cells #[.string (S z)] 9))=.ok v' w'/\KR lo w' v' (l++[z])/\Below lo W w':=by
 subst hB;obtain ⟨j0,hji,hz0,hz1,hz2⟩:=info_parts ZcD;have hb:Below W.heap.size W (W.alloc (.cells #[.string (S z)] 9)):=(Yab _ _).alloc (Yac _) _;obtain ⟨v',w',hr,hk,hg⟩:=KRF.append (P:=Tryz.prog) (w:=W.alloc (.cells #[.string (S z)] 9)) (b:=W.heap.size) (o:=0) (m:=1) (c:=1) (xs:=[z]) Zel 22 ty j0 _ 16 Tryz.underlying22 hji hz0 hz1 hz2 rfl (h.below hb) (Yaq hlo hb.size) rfl (fun k x hk=>by
  cases k with
  | zero=>simp at hk;subst hk;exact (Box.new W #[.string (S z)] 9).cell 0 rfl
  | succ k=>simp at hk) (by simp;omega) (by simp;omega)
 exact ⟨v',w',hr,hk,(hb.mono hlo).trans (hg.only.below (Yaq hlo hb.size) (fun g hg=>(h.own g hg).1))⟩
theorem Zf5 {lo B:Nat} {W:World} {v:Value} {l:List (List UInt8)} (z:List UInt8) (h:KR lo W v l) (hlo:lo<=W.heap.size) (hl:l.length<=1048576) (hB:B=W.heap.size) (ty:TypeId) :
  ∃ v' w',(Builtin.append_ #[22,22] ty #[v,.slice (some ⟨B,0,none⟩) 1 1]).run Tryz.prog (W.alloc (.cells #[.string (S z)] 9))=.ok v' w'/\KR lo w' v' (l++[z])/\Grew W v w' v':=by
 subst hB;obtain ⟨j0,hji,hz0,hz1,hz2⟩:=info_parts ZcD;have hb:Below W.heap.size W (W.alloc (.cells #[.string (S z)] 9)):=(Yab _ _).alloc (Yac _) _;obtain ⟨v',w',hr,hk,hg⟩:=KRF.append (P:=Tryz.prog) (w:=W.alloc (.cells #[.string (S z)] 9)) (b:=W.heap.size) (o:=0) (m:=1) (c:=1) (xs:=[z]) Zel 22 ty j0 _ 16 Tryz.underlying22 hji hz0 hz1 hz2 rfl (h.below hb) (Yaq hlo hb.size) rfl (fun k x hk=>by
  cases k with
  | zero=>simp at hk;subst hk;exact (Box.new W #[.string (S z)] 9).cell 0 rfl
  | succ k=>simp at hk) (by simp;omega) (by simp;omega)
 refine ⟨v',w',hr,hk,⟨(Yad hb).trans hg.only,?_⟩⟩;rcases hg.came with e|e
 ·exact .inl e
 ·exact .inr (fun g hgo=>Yaq hb.size (e g hgo))
theorem ZnJ {P:Program} {ops:Array Oper} {o:Oper} {a:Act} {w:World} {K:Act->World->Prop} {Q:Exit->Act->World->Prop} {E:Prop} (hgd:o.guard=none) (F:Nat) (args:Array Operand) (ts:Array TypeId)
  (ho:o.op=.call { callee:=.value (.func F),args:=args,argTypes:=ts }) (vals:Array Value) (hv:args.toList.map a.eval=vals.toList) (he:(callFunc F vals).run P w=.ok (.enter F vals) w) {R:Value->World->Prop}
  (hc:Calls P F vals w (fun e w'=>∃ v,e=.returned v/\R v w')) (h:∀ v w',R v w'->K (a.put o.dst v) w') :
  if Region.wanted o (yielded ops a.tmps)=true then Oper.wp P o a w K Q else E:=by
 have hw:Region.wanted o (yielded ops a.tmps)=true:=by simp [Region.wanted,hgd]
 rw [YaC hw];have hv2:args.map a.eval=vals:=by rw [←Array.toList_inj,Array.toList_map];exact hv
 subst hv2;clear hv;have hx:(execOp a.eval o).run P w=.ok (.enter F (args.map a.eval)) w:=by
  have h0:a.eval (.func F)=.func (.func F) #[] #[]:=rfl;simp [execOp,ho,resolve,invoke,h0,Deferred.ofValue,he]
 unfold Oper.wp;rw [hx];exact hc.mono (fun e w' ⟨v,hr,hq⟩=>by subst hr;exact h v w' hq)
theorem ZeG (w:World) (g:Nat) (cs:Array Value):Only (fun i=>i=g) w (w.setRow g cs):=
 ⟨rfl,rfl,rfl,by simp,fun k _ hn=>by
  unfold World.setRow;simp only [Array.getElem?_modify];rw [Yas (fun e=>hn e.symm)]⟩
theorem Zf3:(Tryz.prog.info? 9).map (·.size)=some 1:=by kernel_rfl
theorem ZlS {W:World} {g m:Nat} {xs:List Value} (h:MRow W g m 9 xs) (b o c:Nat) (l:List (List UInt8)) (hl:l.length=m) (hc:∀ k x,l[k]? = some x->W.cell? ⟨b,o+k,none⟩=some (strV x)) (ty:TypeId) :
  ∃ w',(Builtin.copy_ #[22,22] ty #[.slice (some ⟨g,0,none⟩) m m,.slice (some ⟨b,o,none⟩) m c]).run Tryz.prog W=.ok (.int .i64 (m:Nat)) w'/\MRow w' g m 9 (l.map strV)/\Only (fun i=>i=g) W w':=by
 rcases h.2 with ⟨hv,_⟩|⟨g',cap,cur,hv,hb,hg,hnc,hcm,hcs,ht⟩
 ·cases hv
 simp only [Value.slice.injEq,Yba,YbF,and_true,true_and] at hv;obtain ⟨rfl,rfl⟩:=hv;have hlen:(l.map strV).length=m:=by rw [Yaz,hl]
 have hrun:=run_copy_row Tryz.prog W 22 22 ty 9 g 0 m m ⟨b,o,none⟩ m c cur 9 (l.map strV) Tryz.underlying22 Zf3 hg (by rw [hlen];simp) (fun j v hj=>by
  rw [Yau] at hj;obtain ⟨x,hx,rfl⟩:=YaU.1 hj;rw [Ybo];exact hc j x hx) (by rw [hlen];omega) (fun v hv=>by obtain ⟨x,_,rfl⟩:=Ya6.1 hv;rfl)
 rw [hlen] at hrun;refine ⟨_,hrun,⟨by rw [hlen];omega,.inr ⟨g,m,_,rfl,Yai _,setRow_heap W g cur _ _ _ hg,Yac _,hcm,?_,?_⟩⟩,ZeG _ _ _⟩
 ·simp only [YbM,Ybm,List.size_toArray,Yak,Ybn,Ybj,hlen];omega
 ·have hd:cur.toList.drop (0+m)=[]:=List.drop_eq_nil_of_le (by rw [Ybj];omega);rw [hd];simp only [YbM,Ybm,Ya2];rw [Yaw (by rw [hlen];omega)]
