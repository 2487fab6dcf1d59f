/- laws -/
import Derived.Test.YtggcdinoflchjaaGreatDoorK21
set_option maxRecDepth 100000
set_option maxHeartbeats 16000000
namespace Go.Proofs.YtggcdinoflchjaaGreatDoor
open Go.RowKit
def Zcn (es:List Ent) (i:Nat):Bool:=match es[i]? with|some e=>e.cls.itf|none=>false
def Ze2 (es:List Ent) (i:Nat):Bool:=match es[i]? with|some e=>e.cls.fin|none=>false
def upE (es:List Ent) (n:List UInt8):Option Nat:=match Zad es n with|some j=>if (Zcn es j || Ze2 es j)=true then none else some j|none=>none
def Zce (es:List Ent) (n:List UInt8):Option Nat:=match Zad es n with|some j=>if Zcn es j=true then some j else none|none=>none
def ZaH (es:List Ent) (l:List (List UInt8)):Bool:=l.all fun n=>(Zce es n).isSome
def Zbw (es:List Ent) (l:List (List UInt8)):List Nat:=l.map fun n=>(Zce es n).getD 0
theorem Zec {es:List Ent} {i:Nat} {e:Ent} (h:es[i]? = some e):Zcn es i=e.cls.itf:=by unfold Zcn;rw [h]
theorem Zgl {es:List Ent} {i:Nat} {e:Ent} (h:es[i]? = some e):Ze2 es i=e.cls.fin:=by unfold Ze2;rw [h]
theorem Zh3 {es:List Ent} {n:List UInt8} {j:Nat} (h:upE es n=some j):Zad es n=some j/\j<es.length:=by
 unfold upE at h;cases hp:Zad es n with
 | none=>rw [hp] at h;cases h
 | some i=>
  rw [hp] at h;dsimp only at h;split at h
  ·cases h
  ·obtain rfl:=Yae h;exact ⟨rfl,Za4 hp⟩
theorem ZoA {es:List Ent} {n:List UInt8} {j:Nat} (h:Zce es n=some j):j<es.length:=by
 unfold Zce at h;cases hp:Zad es n with
 | none=>rw [hp] at h;cases h
 | some i=>
  rw [hp] at h;dsimp only at h;split at h
  ·obtain rfl:=Yae h;exact Za4 hp
  ·cases h
theorem Zhz {es:List Ent} {l:List (List UInt8)} (h:ZaH es l=true):∀ j ∈ Zbw es l,j<es.length:=by
 intro j hj;obtain ⟨n,hn,rfl⟩:=Ya6.1 hj;have h1:=YaE.1 h n hn;obtain ⟨i,hi⟩:=YaM.1 h1;rw [hi];exact ZoA hi
theorem Zk9 {es:List Ent} {i:Nat} {e e':Ent} (h:es[i]? = some e) (hc:e'.cls.name=e.cls.name) (n:List UInt8):Zad (es.set i e') n=Zad es n:=by
 unfold Zad;induction es generalizing i with
 | nil=>rfl
 | cons x l ih=>
  cases i with
  | zero=>
   obtain rfl:=Yae h;rw [Ybq,YbG,YbG,hc]
  | succ i=>
   rw [YbA,YbG,YbG,ih (i:=i) (by simpa using h)]
theorem ZmO {es:List Ent} {i:Nat} {e e':Ent} (h:es[i]? = some e) (hc:e'.cls.name=e.cls.name):ZeJ (es.set i e')=ZeJ es:=by
 funext k
 cases k <;> first|rfl|exact Zk9 h hc _
theorem Tb.link {s:Nat} {w w':World} {T mb:Nat} {B:Nat->Nat} {es:List Ent} {i:Nat} {e e':Ent} (h:Tb s w T mb B es i) (he:es[i]? = some e) (hc:e'.cls.name=e.cls.name) (ho:Only (fun k=>k=B i) w w')
  (hx:EntIs (offT s T mb B es.length) B w' i e') (hu:∀ j,e'.up=some j->j<es.length) (hl:∀ j ∈ e'.lk,j<es.length):Tb s w' T mb B (es.set i e') (i+1):=by
 have hil:=(Yag.1 he).1;have hlen:(es.set i e').length=es.length:=Ycf;have hat:∀ (k:Nat) (x:Ent),(es.set i e')[k]? = some x->(k=i/\x=e')\/(k ≠ i/\es[k]? = some x):=fun k x hk=>by
  by_cases hki:k=i
  ·subst hki;rw [Ybv hil] at hk;exact .inl ⟨rfl,(Yae hk).symm⟩
  ·rw [Ybt (fun q=>hki q.symm)] at hk;exact .inr ⟨hki,hk⟩
 have hne:∀ k,k<es.length->k ≠ i->B k ≠ B i:=fun k hk hki e=>hki (h.tab.inj k i hk hil e)
 have hkeep:∀ (k:Nat) (x:Ent),k ≠ i->es[k]? = some x->EntIs (offT s T mb B es.length) B w' k x:=fun k x hki hk=>
  (h.tab.ent k x hk).keep ho (fun b hb (q:b=B i)=>hb.2.2.2 i hil q) (hne k (Yag.1 hk).1 hki)
 refine ⟨?_,h.tT,h.tM,fun k hk=>h.tB k (hlen ▸ hk),fun k x j hk hj=>?_,fun k x j hk hj=>?_,fun k x hik hk=>?_⟩
 ·rw [hlen];refine ⟨h.tab.box.keep ho (fun q=>h.tab.offT i hil q.symm),?_,fun k x hk=>?_,fun a b ha hb=>h.tab.inj a b (hlen ▸ ha) (hlen ▸ hb),fun k hk=>h.tab.offA k (hlen ▸ hk),fun k hk=>h.tab.offT k (hlen ▸ hk),fun k hk=>h.tab.offM k (hlen ▸ hk),h.tab.T_A,h.tab.M_A,h.tab.T_M⟩
  ·rw [hlen,ZmO he hc];exact h.tab.map.keep ho (fun q=>h.tab.offM i hil q.symm)
  ·rcases hat k x hk with ⟨rfl,rfl⟩|⟨hki,hk⟩
   ·exact hx
   ·exact hkeep k x hki hk
 ·rw [hlen];rcases hat k x hk with ⟨rfl,rfl⟩|⟨hki,hk⟩
  ·exact hu j hj
  ·exact h.up k x j hk hj
 ·rw [hlen];rcases hat k x hk with ⟨rfl,rfl⟩|⟨hki,hk⟩
  ·exact hl j hj
  ·exact h.lk k x j hk hj
 ·rcases hat k x hk with ⟨rfl,rfl⟩|⟨hki,hk⟩
  ·omega
  ·obtain ⟨g1,g2,g3⟩:=h.raw k x (by omega) hk;exact ⟨g1,g2,ho.cell g3 (hne k (Yag.1 hk).1 hki)⟩
def ZqU (s T mb:Nat) (B:Nat->Nat) (es:List Ent) (i:Nat) (c:Cls) (w:World) (e:Ending) (w':World):Prop:=
 (upE es c.sup=none->e=.returned (.int .i64 61)/\Below w.heap.size w w')/\
 ((upE es c.sup).isSome=true->ZaH es c.like=false->e=.returned (.int .i64 62)/\Only (fun k=>k=B i) w w')/\
 (∀ j,upE es c.sup=some j->ZaH es c.like=true->e=.returned (.int .i64 0)/\Only (fun k=>k=B i) w w'/\Tb s w' T mb B (es.set i ⟨c,some j,Zbw es c.like⟩) (i+1))
theorem Zea:(Tryz.prog.info? 94).map (fun i=>(i.zero,i.size,i.bytes))=some (some (.pointer none),1,8):=by kernel_rfl
structure Lk (w:World) (B:Nat->Nat) (i:Nat) (c:Cls) (j:Nat) (lv fv mv:Value) (sv:Value) (lk:List Nat) (us:List Value) (W:World):Prop where
 box:Box W (B i) (entC B i ⟨c,some j,lk⟩ lv fv mv sv) 97
 row:TRow 1 94 (EntP B) w.heap.size W sv lk us
 only:Only (fun k=>k=B i) w W
theorem ZhA {es:List Ent} {l:List (List UInt8)} {k:Nat} {n:List UInt8} (hk:l[k]? = some n) (h:ZaH es (l.take k)=true) (hn:(Zce es n).isSome=true):ZaH es (l.take (k+1))=true:=by
 rw [YaL,hk];unfold ZaH at h ⊢;rw [Ycp,h];simp [hn]
theorem ZiI {es:List Ent} {l:List (List UInt8)} {k:Nat} {n:List UInt8} {j:Nat} (hk:l[k]? = some n) (hn:Zce es n=some j):Zbw es (l.take (k+1))=Zbw es (l.take k)++[j]:=by
 rw [YaL,hk];unfold Zbw;rw [Ya4];simp [hn]
theorem Zfc {es:List Ent} {l:List (List UInt8)} {k:Nat} {n:List UInt8} (hk:l[k]? = some n) (hn:Zce es n=none):ZaH es l=false:=by
 unfold ZaH;rw [Yb2];exact ⟨n,Yaf hk,by rw [hn];decide⟩
theorem Zjo {A:Nat->Prop} {s T mb:Nat} {B:Nat->Nat} {es:List Ent} {i:Nat} (c:Cls) (v:Value) (w:World) (h:Tb s w T mb B es i) (hs:s<=w.heap.size) (hi:es[i]? = some ⟨c,none,[]⟩) (hpi:Zad es c.name=some i)
  (hv:ClsR A w c v) (hA:∀ k,A k->k ≠ B i) (hsm:c.Small) (hlen:es.length<=1048576) :
  Calls Tryz.prog 45 #[.pointer (some ⟨T,0,none⟩),v] w (ZqU s T mb B es i c w):=by
 obtain ⟨lv,fv,mv,rfl,hl,hf,hm⟩:=hv;obtain ⟨lo,lc,rfl⟩:=hl.shape;obtain ⟨fo,fc,rfl⟩:=hf.shape;obtain ⟨mo,mc,rfl⟩:=hm.shape;have hil:=(Yag.1 hi).1;have HL:=Hd hl;have HA:=Hd hA;have HSM:=Hd hsm;have HI:=Hd hi;have HT:=Hd h;have HLEN:=Hd hlen;have HSL:=Hd hs;have hb0:Below w.heap.size w (w.alloc (.cells #[.string (S c.name),.string (S c.sup),.slice lo c.like.length lc,.bool c.itf,.bool c.abs,.bool c.fin,.slice fo c.flds.length fc,.slice mo c.mths.length mc] 87)):=(Yab _ w).alloc (Yac _) _;have HX0:=Hd (Box.new w #[.string (S c.name),.string (S c.sup),.slice lo c.like.length lc,.bool c.itf,.bool c.abs,.bool c.fin,.slice fo c.flds.length fc,.slice mo c.mths.length mc] 87);have HB0:=Hd hb0;clear hb0 hl hf hm hA hsm hi h hlen;go_enter Tryz.func45,Tryz.ntmps45
 go_upto_region 1 with fail
 obtain ⟨W0,hW0⟩:∃ W0,W0=w.alloc (.cells #[.string (S c.name),.string (S c.sup),.slice lo c.like.length lc,.bool c.itf,.bool c.abs,.bool c.fin,.slice fo c.flds.length fc,.slice mo c.mths.length mc] 87):=⟨_,rfl⟩
 rw [←hW0] at HX0 HB0 ⊢;clear hW0;have h0:Below W0.heap.size W0 W0:=Yab _ _;have hnl:c.name.length<=9223372036854775807:=by have:=HSM.o.name;omega
 have hsl:c.sup.length<=9223372036854775807:=by have:=HSM.o.sup;omega
 have HR:Hid (∀ W,Below W0.heap.size W0 W->W.cell? ⟨T,0,none⟩=some (.map (some mb))/\W.cell? ⟨w.heap.size,0,none⟩=some (.string (S c.name))/\W.cell? ⟨w.heap.size,1,none⟩=some (.string (S c.sup))/\
   (Instr.lookup 79 (.map (some mb)) (.string (S c.name)) false).run Tryz.prog W=.ok (.pointer (some ⟨B i,0,none⟩)) W/\
   (Instr.lookup 79 (.map (some mb)) (.string (S c.sup)) false).run Tryz.prog W=.ok (ptrV B (Zad es c.sup)) W):=Hd (fun W hW=>by
  have hT:=HT.o.below (HB0.o.trans (hW.mono HB0.o.size));refine ⟨hT.tab.box.cell 0 rfl,(HX0.o.below hW).cell 0 rfl,(HX0.o.below hW).cell 1 rfl,?_,hT.tab.look c.sup hsl⟩;have:=hT.tab.look c.name hnl;rw [hpi] at this;exact this)
 have HPI:=Hd hpi;clear hnl hsl hpi;obtain ⟨q,hq⟩:=ZdI B (Zad es c.sup);rw [hq] at HR;have HQ:=Hd hq;clear hq;obtain ⟨g1,g2,g3,g4,g5⟩:=HR.o W0 h0;first
 | (go_region_held (fun W=>W.cell? ⟨T,0,none⟩=some (.map (some mb))/\W.cell? ⟨w.heap.size,0,none⟩=some (.string (S c.name))/\W.cell? ⟨w.heap.size,1,none⟩=some (.string (S c.sup))/\
   (Instr.lookup 79 (.map (some mb)) (.string (S c.name)) false).run Tryz.prog W=.ok (.pointer (some ⟨B i,0,none⟩)) W/\
   (Instr.lookup 79 (.map (some mb)) (.string (S c.sup)) false).run Tryz.prog W=.ok (.pointer q) W)
   ((refine HR.o _ ?_;(repeat (first|(with_reducible exact Yab _ _)|(with_reducible assumption)|(with_reducible refine Zab ?_))))) (fail))
 | fail
 all_goals
  clear g1 g2 g3 g4 g5;have hbD:=Zab h0;have HBD:=Hd (HB0.o.trans (hbD.mono HB0.o.size));have HXD:=Hd (HX0.o.below hbD);clear h0 hbD HR HX0 HB0;generalize W0.drew=W1 at HBD HXD ⊢;have hq:=HQ.o;cases hp:Zad es c.sup with
  | none=>
   have hu:upE es c.sup=none:=by unfold upE;rw [hp]
   rw [hp,Zeh] at hq;obtain rfl:=Value.pointer.inj hq;go_wp2;go_ret;exact ⟨fun _=>⟨rfl,HBD.o⟩,fun h1 _=>(by rw [hu] at h1;cases h1),fun j h1 _=>(by rw [hu] at h1;cases h1)⟩
  | some j=>
   rw [hp,ZbW] at hq;obtain rfl:=Value.pointer.inj hq;have hjl:=Za4 hp;obtain ⟨ej,hej⟩:∃ ej,es[j]? = some ej:=⟨_,Yaa hjl⟩
   obtain ⟨_,_,_,_,hxj,_,_,_,_⟩:=(HT.o.below HBD.o).tab.ent j ej hej;have p4:W1.cell? ⟨B j,4,none⟩=some (.bool ej.cls.itf):=hxj.cell 4 rfl;have p6:W1.cell? ⟨B j,6,none⟩=some (.bool ej.cls.fin):=hxj.cell 6 rfl;clear hxj;by_cases hno:(ej.cls.itf || ej.cls.fin)=true
   ·have hu:upE es c.sup=none:=by unfold upE;rw [hp];dsimp only;rw [Zec hej,Zgl hej,YaC hno]
    cases hei:ej.cls.itf with
    | true=>
     rw [hei] at p4;go_wp2;go_ret;exact ⟨fun _=>⟨rfl,HBD.o⟩,fun h1 _=>(by rw [hu] at h1;cases h1),fun j h1 _=>(by rw [hu] at h1;cases h1)⟩
    | false=>
     have hef:ej.cls.fin=true:=by rw [hei] at hno;simpa using hno
     rw [hei] at p4;rw [hef] at p6;go_wp2;go_ret;exact ⟨fun _=>⟨rfl,HBD.o⟩,fun h1 _=>(by rw [hu] at h1;cases h1),fun j h1 _=>(by rw [hu] at h1;cases h1)⟩
   ·have hu:upE es c.sup=some j:=by unfold upE;rw [hp];dsimp only;rw [Zec hej,Zgl hej,Yas hno]
    have hno2:(ej.cls.itf || ej.cls.fin)=false:=by simpa using hno
    have hei:ej.cls.itf=false:=(Ybs.1 hno2).1;have hef:ej.cls.fin=false:=(Ybs.1 hno2).2;rw [hei] at p4;rw [hef] at p6;have HU:=Hd hu;clear hno hno2 hei hef hu hq HQ;obtain ⟨lv1,fv1,mv1,sv1,hxw,e1,e2,e3,_⟩:=HT.o.tab.ent i _ HI.o;have hraw:=(HT.o.raw i _ (Yac _) HI.o).2.2;obtain rfl:sv1=.slice none 0 0:=Yae ((hxw.cell 10 rfl).symm.trans hraw);have hx1:=hxw.below HBD.o;have q9:W1.cell? ⟨B i,9,none⟩=some (.pointer none):=hx1.cell 9 rfl;have fr9:=hx1.free 9;have hlk:Lk w B i c j lv1 fv1 mv1 (.slice none 0 0) [] [] (W1.setCell ⟨B i,9,none⟩ (.pointer (some ⟨B j,0,none⟩)))/\(W1.setCell ⟨B i,9,none⟩ (.pointer (some ⟨B j,0,none⟩))).cell? ⟨w.heap.size,2,none⟩=some (.slice lo c.like.length lc):=
     ⟨⟨hx1.set 9 (.pointer (some ⟨B j,0,none⟩)),TRow.nil _ _,(Yad (S:=fun k=>k=B i) HBD.o).setCell (p:=⟨B i,9,none⟩) rfl (.pointer (some ⟨B j,0,none⟩))⟩,
      (HXD.o.set_ne (by have:=HT.o.tab.lt hil;omega) 9 _).cell 2 rfl⟩
    have HE1:=Hd e1;have HE2:=Hd e2;have HE3:=Hd e3;clear hx1 hxw e1 e2 e3 hraw
    go_upto_region 5 with fail
    refine Zav (fun W=>Lk w B i c j lv1 fv1 mv1 (.slice none 0 0) [] [] W/\W.cell? ⟨w.heap.size,2,none⟩=some (.slice lo c.like.length lc)) hlk ?_;rintro W2 ⟨hk2,r2⟩;have HK2:=Hd hk2;clear hlk hk2 q9 fr9 p4 p6;obtain ⟨N,hN⟩:∃ N,N=c.like.length:=⟨_,rfl⟩
    rw [←hN] at r2 HL;have HNN:=Hd hN;have hNB:N<=1048576:=by rw [hN];exact HSM.o.n1
    clear hN
    go_wp2_with fail
    have HBI:Hid (B i<w.heap.size):=Hd (HT.o.tab.lt hil);obtain ⟨j0,hji,hz0,hz1,hz2⟩:=info_parts Zea;clear r2 hp hs
    go_loopw [47] (fun v47 wr=>∃ (k:Nat) (sv:Value) (us:List Value),k<=N/\v47=.int .i64 k/\ZaH es (c.like.take k)=true/\Lk w B i c j lv1 fv1 mv1 sv (Zbw es (c.like.take k)) us wr) (fun v47 _=>N - (intOf v47).toNat)
    case atStart=>exact ⟨0,_,_,Yai _,rfl,rfl,HK2.o⟩
    case round=>
     obtain ⟨k,sv,us,hk,rfl,hok,hlk⟩:=hrel;have HOK:=Hd hok;have HK:=Hd hlk;clear hok hlk;by_cases hlt:k<N
     ·obtain ⟨n,hn⟩:∃ n,c.like[k]? = some n:=⟨_,Yaa (by have:=HNN.o;omega)⟩
      have HNK:=Hd hn;have hnl:n.length<=9223372036854775807:=by have:=HSM.o.like n (Yaf hn);omega
      obtain ⟨b,o,v0,rfl,hv0,_,hcl⟩:=Src.elem (StrR.st.src HL.o HK.o.only (fun b hb=>HA.o b hb)) k n hn;obtain rfl:=hv0;have d0:wr.cell? ⟨b,o+k,none⟩=some (.string (S n)):=by have q:=hcl 0 _ rfl;rw [YaG] at q;exact q
      clear hcl hn;have t0:=(HT.o.tab.box.keep HK.o.only (fun q=>HT.o.tab.offT i hil q.symm)).cell 0 rfl;have hlook:=(HT.o.tab.map.keep HK.o.only (fun q=>HT.o.tab.offM i hil q.symm)).look Za3 Tryz.underlying79 (ZjG wr) (ZcE n hnl);rw [show ptrV B (ZeJ es (.string n))=ptrV B (Zad es n) from rfl] at hlook;have hk0:(0:Int)<=(k:Int):=by omega
      have hkn:(k:Int)<(N:Int):=by omega
      clear hnl;cases hp:Zad es n with
      | none=>
       rw [hp,Zeh] at hlook;have hle:Zce es n=none:=by unfold Zce;rw [hp]
       go_wp2;go_ret;exact ⟨fun h1=>(by rw [HU.o] at h1;cases h1),fun _ _=>⟨rfl,HK.o.only⟩,fun j h1 h2=>(by rw [Zfc HNK.o hle] at h2;cases h2)⟩
      | some j2=>
       rw [hp,ZbW] at hlook;have hjl:=Za4 hp;obtain ⟨e2,he2⟩:∃ e2,es[j2]? = some e2:=⟨_,Yaa hjl⟩
       have p4:wr.cell? ⟨B j2,4,none⟩=some (.bool e2.cls.itf):=by
        by_cases hji2:j2=i
        ·subst hji2;obtain rfl:=Yae (he2.symm.trans HI.o);exact HK.o.box.cell 4 rfl
        ·obtain ⟨_,_,_,_,hx2,_,_,_,_⟩:=HT.o.tab.ent j2 e2 he2;exact HK.o.only.cell (hx2.cell 4 rfl) (fun q=>hji2 (HT.o.tab.inj j2 i hjl hil q))
       cases hei:e2.cls.itf with
       | false=>
        rw [hei] at p4;have hle:Zce es n=none:=by unfold Zce;rw [hp];dsimp only;rw [Zec he2,hei];rfl
        go_wp2;go_ret;exact ⟨fun h1=>(by rw [HU.o] at h1;cases h1),fun _ _=>⟨rfl,HK.o.only⟩,fun j h1 h2=>(by rw [Zfc HNK.o hle] at h2;cases h2)⟩
       | true=>
        rw [hei] at p4;have hle:Zce es n=some j2:=by unfold Zce;rw [hp];dsimp only;rw [Zec he2,hei];rfl
        have HLE:=Hd hle;clear hle hei hp;have hlen2:(Zbw es (c.like.take k)).length=k:=by unfold Zbw;rw [Yaz,Yay];have:=HNN.o;omega
        have hr:=HK.o.row;obtain ⟨ao,cp,rfl⟩:=hr.shape;have HLN:=Hd hlen2;have c10:wr.cell? ⟨B i,10,none⟩=some (.slice ao (Zbw es (c.like.take k)).length cp):=HK.o.box.cell 10 rfl;rw [hlen2] at c10;have hbA:Below wr.heap.size wr (wr.alloc (.cells #[.pointer (some ⟨B j2,0,none⟩)] 94)):=(Yab _ wr).alloc (Yac _) _;have HRW:=Hd (hr.below (EntP.st B) hbA);have HNW:=Hd (Box.new wr #[.pointer (some ⟨B j2,0,none⟩)] 94);have HBX:=Hd (HK.o.box.below hbA);have HRO:=Hd HRW.o.row;rw [hlen2] at HRO;have HOA:=Hd (HK.o.only.alloc (.cells #[.pointer (some ⟨B j2,0,none⟩)] 94));clear hbA hr hlen2
        go_wp2_with (at_builtin;refine Zbd _ rfl _ _ 88 rfl 94 j0 (.pointer none) 1 8 Tryz.underlying88 hji hz0 hz1 hz2 rfl (by decide) _ _ _ rfl HRO.o ⟨wr.heap.size,0,none⟩ 1 1 [.pointer (some ⟨B j2,0,none⟩)] rfl rfl (by intro j q hj;rw [Ybo,Ybc];exact HNW.o.cell j (by rw [←hj];simp)) (by intro q hq;simp at hq;rcases hq with rfl;rfl) ?c3 ?c4 ?_)
        case c3=>unfold maxLen;have:=HNN.o;have:=HSM.o.n1;omega
        case c4=>have:=HNN.o;have:=HSM.o.n1;omega
        intro v' w3 hown' hgrow;have hg':Grew (wr.alloc (.cells #[.pointer (some ⟨B j2,0,none⟩)] 94)) (.slice ao (Zbw es (c.like.take k)).length cp) w3 v':=by rw [HLN.o];exact hgrow
        have ir4:=HRW.o.snoc (EntP.st B) hg' HOA.o.size (x:=j2) (u:=.pointer (some ⟨B j2,0,none⟩)) rfl rfl (by rw [HLN.o];exact hown');rw [←ZiI HNK.o HLE.o] at ir4;have hx3:=HBX.o.keep hg'.only (fun q=>by have h1:=HRW.o.own _ q;have h2:=HBI.o;omega);have hon3:=HOA.o.then hg'.only (fun k hk q=>by have h1:=HRW.o.own _ q;omega);have c3:w3.cell? ⟨B i,10,none⟩=some (.slice ao (Zbw es (c.like.take k)).length cp):=hx3.cell 10 rfl;have f3:=hx3.free 10;obtain ⟨ao3,cp3,rfl⟩:=ir4.shape;have HX3:=Hd hx3;have HON3:=Hd hon3;have IR4:=Hd ir4;have HOK4:=Hd (ZhA HNK.o HOK.o (by rw [HLE.o];rfl));clear ir4 hgrow hown' hg' hx3 hon3 c10 p4 t0 hlook d0;go_wp2
        go_roundw
        case rel=>exact ⟨k+1,_,_,by omega,by go_num,HOK4.o,⟨HX3.o.set 10 _,IR4.o.past (EntP.st B) ((Yan (fun k=>k=B i) w3).setCell (p:=⟨B i,10,none⟩) rfl _) (fun q hq e=>by have h2:=HBI.o;omega),HON3.o.setCell (S:=fun k=>k=B i) (p:=⟨B i,10,none⟩) rfl _⟩⟩
        case measure=>simp [intOf];omega
     ·obtain rfl:k=N:=by omega
      have hall:c.like.take k=c.like:=Yaw (by rw [HNN.o];exact Yac _);rw [hall] at HOK HK;go_wp2;go_ret;refine ⟨fun h1=>(by rw [HU.o] at h1;cases h1),fun _ h2=>(by rw [HOK.o] at h2;cases h2),fun j2 h1 _=>⟨rfl,HK.o.only,?_⟩⟩;obtain rfl:j=j2:=Yae (HU.o.symm.trans h1);have tr:∀ q,offT s T mb B es.length q->¬ q=B i:=fun q hq e=>hq.2.2.2 i hil e
      refine HT.o.link HI.o rfl HK.o.only ⟨lv1,fv1,mv1,_,HK.o.box,StrR.st.src HE1.o HK.o.only tr,FldR.st.src HE2.o HK.o.only tr,MthR.st.src HE3.o HK.o.only tr,?_⟩ (fun q hq=>?_) (Zhz HOK.o)
      ·refine (EntP.st B).srcMono (HK.o.row.src (EntP.st B)) (fun q hq1 hq=>⟨?_,?_,?_,?_⟩)
       ·exact Yaq HSL.o hq
       ·have:=HT.o.tab.box.lt;have h3:w.heap.size<=q:=hq;omega
       ·have:=HT.o.tab.map.lt;have h3:w.heap.size<=q:=hq;omega
       ·intro x hx;have:=HT.o.tab.lt hx;have h3:w.heap.size<=q:=hq;omega
      ·obtain rfl:j=q:=Yae hq;exact (Zh3 HU.o).2
def startL:List Ent:=⟨objC,none,[]⟩ :: ⟨ZbZ,some 0,[]⟩ :: faultsL.map fun n=>⟨oneF n,some 1,[]⟩
theorem Zes:givenL.length=8:=by decide
theorem ZaG:startL.length=8:=by decide
theorem ZhE (k:Lit):ZeJ [] k=none:=by
 cases k <;> rfl
theorem Tb.new (w:World) (B:Nat->Nat):Tb w.heap.size ((w.alloc (.map #[] 0)).alloc (.cells #[.map (some w.heap.size)] 81)) (w.heap.size+1) w.heap.size B [] 0:=by
 have hm:=(MapF.new Tryz.prog 9 (.pointer none) w).keep ((Yan (fun _=>False) _).alloc (.cells #[.map (some w.heap.size)] 81)) id;have e1:(fun k=>ptrV B (ZeJ [] k))=(fun _:Lit=>(.pointer none:Value)):=by
  funext k
  rw [ZhE];rfl
 have e2:(fun k=>(ZeJ [] k).isSome)=(fun _:Lit=>false):=by
  funext k
  rw [ZhE];rfl
 refine ⟨⟨?_,?_,fun i e h=>by simp at h,fun i j h=>by simp at h,fun i h=>by simp at h,fun i h=>by simp at h,fun i h=>by simp at h,fun h=>h.2.1 rfl,fun h=>h.2.2.1 rfl,by omega⟩,by omega,Yac _,fun i h=>by simp at h,fun i e j h=>by simp at h,fun i e j h=>by simp at h,fun i e _ h=>by simp at h⟩
 ·exact Zg3 (by simp)
 ·rw [e1,e2];exact hm
theorem Tb.up_to {s:Nat} {w:World} {T mb:Nat} {B:Nat->Nat} {es:List Ent} {u u':Nat} (h:Tb s w T mb B es u) (hu:u<=u'):Tb s w T mb B es u':=
 ⟨h.tab,h.tT,h.tM,h.tB,h.up,h.lk,fun i e hi=>h.raw i e (Yaq hu hi)⟩
theorem Zli (k:Nat) (x:Cls) (hx:givenL[k]? = some x) :
  Zad (startL.take k) x.name=none/\Zad (startL.take k++[(⟨x,none,[]⟩:Ent)]) x.name=some k/\x.like=[]/\(startL.take k).length=k/\
   ((upE (startL.take k++[(⟨x,none,[]⟩:Ent)]) x.sup=none/\startL.take k++[(⟨x,none,[]⟩:Ent)]=startL.take (k+1))\/
    ∃ j,upE (startL.take k++[(⟨x,none,[]⟩:Ent)]) x.sup=some j/\(startL.take k++[(⟨x,none,[]⟩:Ent)]).set k ⟨x,some j,[]⟩=startL.take (k+1)):=by
 match k,hx with
 | 0,hx=>obtain rfl:=Yae hx;exact ⟨by decide,by decide,rfl,rfl,.inl ⟨by decide,rfl⟩⟩
 | 1,hx=>obtain rfl:=Yae hx;exact ⟨by decide,by decide,rfl,rfl,.inr ⟨0,by decide,rfl⟩⟩
 | 2,hx=>obtain rfl:=Yae hx;exact ⟨by decide,by decide,rfl,rfl,.inr ⟨1,by decide,rfl⟩⟩
 | 3,hx=>obtain rfl:=Yae hx;exact ⟨by decide,by decide,rfl,rfl,.inr ⟨1,by decide,rfl⟩⟩
 | 4,hx=>obtain rfl:=Yae hx;exact ⟨by decide,by decide,rfl,rfl,.inr ⟨1,by decide,rfl⟩⟩
 | 5,hx=>obtain rfl:=Yae hx;exact ⟨by decide,by decide,rfl,rfl,.inr ⟨1,by decide,rfl⟩⟩
 | 6,hx=>obtain rfl:=Yae hx;exact ⟨by decide,by decide,rfl,rfl,.inr ⟨1,by decide,rfl⟩⟩
 | 7,hx=>obtain rfl:=Yae hx;exact ⟨by decide,by decide,rfl,rfl,.inr ⟨1,by decide,rfl⟩⟩
 | k+8,hx=>rw [YaN (by rw [Zes];omega)] at hx;cases hx
theorem ZiC (x:Cls) (hx:x ∈ givenL):x.Small:=by
 have h:givenL.all (fun x=>decide (x.name.length<=20/\x.sup.length<=20/\x.like=[]/\x.flds.all (fun f=>decide (f.name.length<=20/\f.kind.length<=20))=true/\x.flds.length<=1/\x.mths.length=0))=true:=by decide
 have h1:=of_decide_eq_true (YaE.1 h x hx);obtain ⟨a1,a2,a3,a4,a5,a6⟩:=h1;refine ⟨by omega,by omega,by rw [a3];simp,by omega,by omega,fun y hy=>?_,fun f hf=>?_,fun m hm=>?_⟩
 ·rw [a3] at hy;simp at hy
 ·have h2:=of_decide_eq_true (YaE.1 a4 f hf);omega
 ·rw [YaY.1 a6] at hm;simp at hm
def Zqp (w:World) (e:Ending) (w':World):Prop:=∃ T mb B,e=.returned (.pointer (some ⟨T,0,none⟩))/\Tb w.heap.size w' T mb B startL 8/\Below w.heap.size w w'
theorem ZnG (w:World) (hF:FaultTab w):Calls Tryz.prog 42 #[] w (Zqp w):=by
 have hb0:Below w.heap.size w ((w.alloc (.map #[] 0)).alloc (.cells #[.map (some w.heap.size)] 81)):=((Yab _ w).alloc (Yac _) _).alloc (by simp) _;have HB0:=Hd hb0;have HT0:=Hd (Tb.new w (fun _=>0));have HG:=Hd (Zme _ (hF.keep hb0));have HS0:Hid (((w.alloc (.map #[] 0)).alloc (.cells #[.map (some w.heap.size)] 81)).heap.size=w.heap.size+2):=Hd (by simp);clear hb0 hF;have hmm:=@run_makeMap Tryz.prog;go_enter Tryz.func42,Tryz.ntmps42
 go_wp2_with fail
 generalize (w.alloc (.map #[] 0)).alloc (.cells #[.map (some w.heap.size)] 81)=W0 at HB0 HT0 HG HS0 ⊢;refine HG.o.mono ?_;rintro e w2 ⟨gv,us,rfl,hgr,hgb⟩;have hsrc:=(hgr.src ClsR.st);obtain ⟨go,gc,rfl⟩:=hgr.shape;have HSRC:=Hd (ClsR.st.srcMono (A':=fun k=>W0.heap.size<=k/\k<w2.heap.size) hsrc (fun k hk ha=>⟨ha,hk⟩));have HT2:=Hd (HT0.o.below hgb);have HB2:=Hd (HB0.o.trans (hgb.mono HB0.o.size));have HS2:Hid (w.heap.size+2<=w2.heap.size):=Hd (by rw [←HS0.o];exact hgb.size);rw [Zes] at HSRC ⊢;clear hgr hsrc hgb HG HT0 HB0
 go_wp2_with fail
 go_loopw [9] (fun v9 wr=>∃ (k:Nat) (B:Nat->Nat),k<=8/\v9=.int .i64 k/\Tb w.heap.size wr (w.heap.size+1) w.heap.size B (startL.take k) k/\Only (fun k=>k=w.heap.size) w2 wr/\Below w.heap.size w wr) (fun v9 _=>8 - (intOf v9).toNat)
 case atStart=>exact ⟨0,_,Yai _,rfl,HT2.o,Yan _ _,HB2.o⟩
 case round=>
  obtain ⟨k,B,hk,rfl,htb,hon,hbel⟩:=hrel;by_cases hlt:k<8
  ·obtain ⟨x,hx⟩:∃ x,givenL[k]? = some x:=⟨_,Yaa (by rw [Zes];exact hlt)⟩
   obtain ⟨s1,s2,s3,s4,s5⟩:=Zli k x hx;have HSM:=Hd (ZiC x (Yaf hx));obtain ⟨b,o,v,rfl,hv,_,hcl⟩:=Src.elem (ClsR.st.src HSRC.o hon (fun q hq (e:q=w.heap.size)=>by have:=HS0.o;omega)) k x hx;have hv':=hv;obtain ⟨_,_,_,rfl,⟨lo,lc,rfl⟩,⟨fo,fc,rfl⟩,⟨mo,mc,rfl⟩⟩:=ZbO hv';have d0:wr.cell? ⟨b,o+k * 8,none⟩=some (.string (S x.name)):=hcl 0 _ rfl;have d1:wr.cell? ⟨b,o+k * 8+1,none⟩=some (.string (S x.sup)):=hcl 1 _ rfl;have d2:wr.cell? ⟨b,o+k * 8+2,none⟩=some (.slice lo x.like.length lc):=hcl 2 _ rfl;have d3:wr.cell? ⟨b,o+k * 8+3,none⟩=some (.bool x.itf):=hcl 3 _ rfl;have d4:wr.cell? ⟨b,o+k * 8+4,none⟩=some (.bool x.abs):=hcl 4 _ rfl;have d5:wr.cell? ⟨b,o+k * 8+5,none⟩=some (.bool x.fin):=hcl 5 _ rfl;have d6:wr.cell? ⟨b,o+k * 8+6,none⟩=some (.slice fo x.flds.length fc):=hcl 6 _ rfl;have d7:wr.cell? ⟨b,o+k * 8+7,none⟩=some (.slice mo x.mths.length mc):=hcl 7 _ rfl;have hk0:(0:Int)<=(k:Int):=by omega
   have hk8:(k:Int)<8:=by omega
   have HTB:=Hd htb;have HON:=Hd hon;have HBL:=Hd hbel;have HV:=Hd hv;have S1:=Hd s1;have S2:=Hd s2;have S3:=Hd s3;have S4:=Hd s4;have S5:=Hd s5;clear htb hon hbel hv hv' hcl s1 s2 s3 s4 s5 hx;have hI:Below wr.heap.size wr (wr.alloc (.cells #[.string (S x.name),.string (S x.sup),.slice lo x.like.length lc,.bool x.itf,.bool x.abs,.bool x.fin,.slice fo x.flds.length fc,.slice mo x.mths.length mc] 87))/\Box (wr.alloc (.cells #[.string (S x.name),.string (S x.sup),.slice lo x.like.length lc,.bool x.itf,.bool x.abs,.bool x.fin,.slice fo x.flds.length fc,.slice mo x.mths.length mc] 87)) wr.heap.size #[.string (S x.name),.string (S x.sup),.slice lo x.like.length lc,.bool x.itf,.bool x.abs,.bool x.fin,.slice fo x.flds.length fc,.slice mo x.mths.length mc] 87:=⟨(Yab _ wr).alloc (Yac _) _,Box.new wr #[.string (S x.name),.string (S x.sup),.slice lo x.like.length lc,.bool x.itf,.bool x.abs,.bool x.fin,.slice fo x.flds.length fc,.slice mo x.mths.length mc] 87⟩
   go_upto_region 5 with fail
   refine Zav (fun W=>Below wr.heap.size wr W/\Box W wr.heap.size #[.string (S x.name),.string (S x.sup),.slice lo x.like.length lc,.bool x.itf,.bool x.abs,.bool x.fin,.slice fo x.flds.length fc,.slice mo x.mths.length mc] 87) hI ?_;rintro W3 ⟨hb3,hx3⟩;have HB3:=Hd hb3;have HX3:=Hd hx3;have r0:=hx3.cell 0 rfl;have r1:=hx3.cell 1 rfl;have r2:=hx3.cell 2 rfl;have r3:=hx3.cell 3 rfl;have r4:=hx3.cell 4 rfl;have r5:=hx3.cell 5 rfl;have r6:=hx3.cell 6 rfl;have r7:=hx3.cell 7 rfl;have HV3:=Hd (Zb3 HV.o hb3);have HT3:=Hd (HTB.o.below hb3);have HON3:=Hd (HON.o.then (Yad (S:=fun _=>False) hb3) (fun _ _ q=>q.elim));have HBL3:=Hd (HBL.o.trans (hb3.mono HBL.o.size));have HRL:Hid (w2.heap.size<=wr.heap.size/\wr.heap.size<W3.heap.size):=Hd ⟨HON.o.size,hx3.lt⟩;clear hI hb3 hx3 d0 d1 d2 d3 d4 d5 d6 d7 HV HTB HON HBL HB3
   go_wp2_with fail
   refine (Zhc x _ W3 HT3.o HBL3.o.size HV3.o HSM.o (by rw [S4.o];omega)).mono ?_;rintro e w4 ⟨_,hen⟩;obtain ⟨rfl,ho4,b4,hb4,ht4⟩:=hen S1.o;rw [S4.o] at ht4;have HT4:=Hd ht4;have hx4:=HX3.o.keep ho4 (fun q=>by have:=HRL.o;have:=HS2.o;omega);have HX4:=Hd hx4;have HV4:=Hd (ClsR.st.keep HV3.o ho4 (fun q hq e=>by have:=HS0.o;omega));have HON4:=Hd (HON3.o.trans ho4);have HBL4:=Hd (HBL3.o.trans (ho4.below HBL3.o.size (fun q (e:q=w.heap.size)=>by omega)));have HB4:Hid (w2.heap.size<=b4):=Hd (by have:=HRL.o;omega);clear r0 r1 r2 r3 r4 r5 r6 r7 hen ht4 ho4 hb4 HT3 HX3 HV3 HON3 HBL3;have r0:=hx4.cell 0 rfl;have r1:=hx4.cell 1 rfl;have r2:=hx4.cell 2 rfl;have r3:=hx4.cell 3 rfl;have r4:=hx4.cell 4 rfl;have r5:=hx4.cell 5 rfl;have r6:=hx4.cell 6 rfl;have r7:=hx4.cell 7 rfl;clear hx4
   go_wp2_with fail
   have hat:(startL.take k++[(⟨x,none,[]⟩:Ent)])[k]? = some ⟨x,none,[]⟩:=by
    rw [YaH (by rw [S4.o];exact Yac _),S4.o,Yca];rfl
   have hBk:addB B k b4 k=b4:=ZbL;refine (Zjo x _ w4 HT4.o HBL4.o.size hat S2.o HV4.o (fun q hq e=>by rw [hBk] at e;have:=HB4.o;omega) HSM.o (by rw [Yak,S4.o];simp;omega)).mono ?_;rintro e w5 ⟨hl1,_,hl3⟩;have hfin:Tb w.heap.size w5 (w.heap.size+1) w.heap.size (addB B k b4) (startL.take (k+1)) (k+1)/\Only (fun q=>q=w.heap.size) w2 w5/\Below w.heap.size w w5/\∃ z:Int,e=.returned (.int .i64 z):=by
    rcases S5.o with ⟨u1,u2⟩|⟨j,u1,u2⟩
    ·obtain ⟨rfl,hb5⟩:=hl1 u1;refine ⟨?_,HON4.o.then (Yad (S:=fun _=>False) hb5) (fun _ _ q=>q.elim),HBL4.o.trans (hb5.mono HBL4.o.size),_,rfl⟩;rw [←u2];exact (HT4.o.below hb5).up_to (Nat.le_succ _)
    ·obtain ⟨rfl,ho5,ht5⟩:=hl3 j u1 (by rw [S3.o];rfl);rw [hBk] at ho5;have e1:Zbw (startL.take k++[(⟨x,none,[]⟩:Ent)]) x.like=[]:=by rw [S3.o];rfl
     rw [e1,u2] at ht5;refine ⟨ht5,HON4.o.then ho5 (fun q hq (e:q=b4)=>by have:=HB4.o;omega),HBL4.o.trans (ho5.below HBL4.o.size (fun q (e:q=b4)=>by have:=HB4.o;have:=HS2.o;omega)),_,rfl⟩
   obtain ⟨f1,f2,f3,z,rfl⟩:=hfin;have HF1:=Hd f1;have HF2:=Hd f2;have HF3:=Hd f3;clear f1 f2 f3 hl1 hl3 hat r0 r1 r2 r3 r4 r5 r6 r7;go_wp2
   go_roundw
   case rel=>exact ⟨k+1,_,by omega,by go_num,HF1.o,HF2.o,HF3.o⟩
   case measure=>simp [intOf];omega
  ·obtain rfl:k=8:=by omega
   have HTB:=Hd htb;have HBL:=Hd hbel;clear htb hbel hon;go_wp2;go_ret;exact ⟨_,_,_,rfl,HTB.o,HBL.o⟩
theorem Zgx (z:Value) (n:Nat):(madeCells #[z] (n * 1)).toList=List.replicate n z:=by
 unfold madeCells;rw [YaG];apply List.ext_getElem
 ·simp
 ·intro i h1 h2;simp [Nat.mod_one]
abbrev MRow (w:World) (g n:Nat) (t:TypeId) (xs:List Value):Prop:=w.ownsRow 0 t 1 (.slice (some ⟨g,0,none⟩) n n) n xs
theorem MRow.at_ {w:World} {g n:Nat} {t:TypeId} {xs:List Value} (h:MRow w g n t xs) (j:Nat) (hj:j<n):w.cell? ⟨g,j,none⟩=xs[j]?:=World.ownsRow.cellAt h j (by omega)
theorem MRow.free {w:World} {g n:Nat} {t:TypeId} {xs:List Value} (h:MRow w g n t xs) (j:Nat):w.frozen? ⟨g,j,none⟩=false:=World.ownsRow.frozenAt h j
theorem MRow.set {w:World} {g n:Nat} {t:TypeId} {xs:List Value} (h:MRow w g n t xs) (j:Nat) (u:Value):MRow (w.setCell ⟨g,j,none⟩ u) g n t (xs.set j u):=(World.ownsRow.stored h j u).1
theorem MRow.keep {S:Nat->Prop} {w w':World} {g n:Nat} {t:TypeId} {xs:List Value} (h:MRow w g n t xs) (ho:Only S w w') (hg:¬ S g):MRow w' g n t xs:=ho.row h (fun b hb=>by simp [Value.ownBlock] at hb;subst hb;exact hg)
theorem MRow.len {w:World} {g n:Nat} {t:TypeId} {xs:List Value} (h:MRow w g n t xs):xs.length=n:=by have:=h.1;omega
theorem MRow.lt {w:World} {g n:Nat} {t:TypeId} {xs:List Value} (h:MRow w g n t xs):g<w.heap.size:=(World.ownsRow.lt h g rfl).2
theorem Zcf {P:Program} (t e:TypeId) (i:TypeInfo) (z:Value) (ht:P.underlying t=some (.slice e)) (hi:P.info? e=some i) (hz:i.zero=some z) (hs:i.size=1) (hc:z.cells=#[z]) (n:Nat) (hb:i.bytes * n<=281474976710656) (h63:n<=maxLen) (w:World) :
  ∃ w',(Instr.makeSlice t (.int .i64 (n:Int)) (.int .i64 (n:Int))).run P w=.ok (.slice (some ⟨w.heap.size,0,none⟩) n n) w'/\MRow w' w.heap.size n e (List.replicate n z)/\Below w.heap.size w w':=by
 obtain ⟨w',hr,ho,hg⟩:=run_make_full (P:=P) w 0 t e i z 1 ht hi hz hs .i64 .i64 n hb h63 (Yai _);rw [hc,Zgx] at ho;exact ⟨w',hr,ho,⟨hg.os,hg.tape,hg.output,hg.size,fun k hk=>hg.block k hk (by simp)⟩⟩
def Zqn (B:Nat->Nat) (n:Nat) (w:World) (e:Ending) (w':World):Prop:=∃ g,e=.returned (.slice (some ⟨g,0,none⟩) n n)/\w.heap.size<=g/\MRow w' g n 94 ((List.range n).map (entV B))/\Below w.heap.size w w'
theorem ZiF {A:Nat->Prop} {B:Nat->Nat} {T mb:Nat} {es:List Ent} {w0:World} (hT:Tab A w0 T mb B es) (hU:∀ (i:Nat) (e:Ent),es[i]? = some e->Zad es e.cls.name=some i) (hlen:es.length<=1048576) (w:World) (hw:Below w0.heap.size w0 w) :
  Calls Tryz.prog 46 #[.pointer (some ⟨T,0,none⟩)] w (Zqn B es.length w):=by
 obtain ⟨j0,hji,hz0,hz1,hz2⟩:=info_parts Zea;obtain ⟨w1,hmk,hrow,hb1⟩:=Zcf 88 94 j0 (.pointer none) Tryz.underlying88 hji hz0 hz1 rfl es.length (by rw [hz2];omega) (by unfold maxLen;omega) w;have hTw:=hT.below hw;obtain ⟨N,hN⟩:∃ N,N=es.length:=⟨_,rfl⟩
 have t0:=hTw.box.cell 0 rfl;have hln:=fun ty=>hTw.map.len (t:=79) Tryz.underlying79 ty
 obtain ⟨w2,hrg,hG,hb2,hs2⟩:=(hTw.map.keep (Yad (S:=fun _=>False) hb1) id).range Za3 Tryz.underlying79;have t1:=(hTw.below hb1).box.cell 0 rfl;have HT:=Hd hTw;have HROW:=Hd (hrow.keep (Yad (S:=fun _=>False) hb2) id);have HB1:=Hd hb1;have HB2:=Hd hb2;have HG:=Hd hG;have HG1:Hid (w.heap.size<w1.heap.size):=Hd hrow.lt;have HU:=Hd hU;rw [←hN] at hmk hln HROW hlen ⊢;have HN:=Hd hN;clear hTw hrow hb1 hb2 hG hs2 hji hz0 hz1 hz2 hT hU hw hN;go_enter Tryz.func46,Tryz.ntmps46
 go_wp2_with fail
 have HRG:Hid (w.heap.size<=w1.heap.size):=Hd HB1.o.size;have HBW:Hid (Below w.heap.size w w2):=Hd (HB1.o.trans (HB2.o.mono HB1.o.size));have hML:=HT.o.map.lt;clear hmk t0 hln hrg t1 HB1 HB2;generalize hr:w1.heap.size=r at HG HG1 HRG ⊢;clear hr;obtain ⟨g,hg⟩:∃ g,g=w.heap.size:=⟨_,rfl⟩
 rw [←hg] at HROW HG1 ⊢;have HGW:Hid (g=w.heap.size):=Hd hg;clear hg
 go_loopw [] (fun wr=>∃ (l:Lit->Bool) (c:Nat) (xs:List Value),MapG Tryz.prog 9 (.pointer none) wr mb r es.length (fun k=>ptrV B (ZeJ es k)) (fun k=>(ZeJ es k).isSome) l c/\MRow wr g N 94 xs/\(∀ x,l x=true->(ZeJ es x).isSome=true)/\
   (∀ (i:Nat) (e:Ent),es[i]? = some e->l (.string e.cls.name)=false->xs[i]? = some (entV B i))/\Below w.heap.size w wr) (fun wr=>wr.rangeLeft mb r)
 case atStart=>exact ⟨_,_,_,HG.o,HROW.o,fun _ h=>h,fun i e he hl=>(by
   have h1:(Zad es e.cls.name).isSome=false:=hl;rw [HU.o i e he] at h1;cases h1),HBW.o⟩
 case round=>
  obtain ⟨l,c,xs,hg,hrow,hsub,hdone,hbel⟩:=hrel;have HGL:=Hd hg.left;have HROW2:=Hd hrow;have HDONE:=Hd hdone;have HBEL:=Hd hbel;have HSUB:=Hd hsub;rcases hg.next Za3 0 with ⟨hc,hall,hnx⟩|⟨key,kl,w3,c3,hkey,hl,hnx,hg3,hc3,ho3,hs3,hen⟩
  ·go_wp2;go_ret;have hlx:=HROW2.o.len;have hxs:xs=(List.range N).map (entV B):=by
    apply Yb3
    intro i;rcases YaB i N with hi|hi
    ·obtain ⟨e,he⟩:∃ e,es[i]? = some e:=⟨_,Yaa (by rw [←HN.o];exact hi)⟩
     rw [HDONE.o i e he (hall _),Yau,Ybl hi];rfl
    ·rw [YaN (by omega),YaN (by simp;omega)]
   exact ⟨g,rfl,Ycu HGW.o.symm,by rw [←hxs];exact HROW2.o,HBEL.o⟩
  ·have hsk:=HSUB.o kl hl;obtain ⟨j,hj⟩:=YaM.1 hsk;obtain ⟨n,rfl⟩:∃ n,kl=.string n:=by
    cases kl <;> first|exact ⟨_,rfl⟩|(cases hj)
   have hpj:Zad es n=some j:=hj;have hjl:=Za4 hpj;obtain ⟨e,he⟩:∃ e,es[j]? = some e:=⟨_,Yaa hjl⟩
   have hnx':(Instr.next (.pointer (some ⟨r,0,none⟩)) false 0).run Tryz.prog wr=.ok (.tuple #[.bool true,key,.pointer (some ⟨B j,0,none⟩)]) w3:=by
    have h1:=hnx;rw [hj,ZbW] at h1;exact h1
   have hen':(Instr.entry (.pointer (some ⟨r,0,none⟩))).run Tryz.prog w3=.ok (.tuple #[key,.pointer (some ⟨B j,0,none⟩)]) w3:=by
    have h1:=hen;rw [hj,ZbW] at h1;exact h1
   have HB3:=Hd (HBEL.o.trans (ho3.below HBEL.o.size (fun q (e:q=r)=>by have:=HRG.o;omega)));obtain ⟨_,_,_,_,hbx,_,_,_,_⟩:=(HT.o.below HB3.o).ent j e he;have c0:w3.cell? ⟨B j,0,none⟩=some (.int .i64 j):=hbx.cell 0 rfl;have hrow3:=HROW2.o.keep ho3 (fun q=>by have:=HG1.o;omega);have hjN:j<N:=by rw [HN.o];exact hjl
   have hlx:=hrow3.len;obtain ⟨q0,s0⟩:∃ q0,w3.cell? ⟨g,j,none⟩=some q0:=⟨xs[j]'(by omega),by rw [hrow3.at_ j hjN];exact Yaa _⟩
   have f0:=hrow3.free j;have HROW3:=Hd hrow3;have HG3:=Hd hg3;have HC3:=Hd hc3;have HE:=Hd he;have HPJ:=Hd hpj;have hj0:(0:Int)<=(j:Int):=by omega
   have hjn:(j:Int)<(N:Int):=by omega
   clear hg hrow hsub hdone hbel hkey hnx hen hg3 hc3 ho3 hs3 hsk hj hbx hrow3 he hpj hlx;go_wp2
   go_roundw
   case rel=>
    have ho4:Only (fun k=>k=g) w3 (w3.setCell ⟨g,j,none⟩ (.pointer (some ⟨B j,0,none⟩))):=(Yan (fun k=>k=g) w3).setCell (p:=⟨g,j,none⟩) rfl _;refine ⟨_,_,_,HG3.o.keep ho4 (fun q=>by have:=HGW.o;omega) (fun q=>by have:=HG1.o;omega),HROW3.o.set j _,fun x hx=>HSUB.o x (by simp at hx;exact hx.1),fun i e2 he2 hl2=>?_,HB3.o.trans (ho4.below HB3.o.size (fun q (e:q=g)=>by have:=HGW.o;omega))⟩;have hlen3:=HROW3.o.len;by_cases hij:i=j
    ·subst hij;rw [Ybv (by omega)]
    ·rw [Ybt (fun q=>hij q.symm)];refine HDONE.o i e2 he2 ?_;cases hq:l (.string e2.cls.name) with
     | false=>rfl
     | true=>
      exfalso
      simp only [hq,Yax,Bool.not_eq_false'] at hl2;have h5:e2.cls.name=n:=by simpa [Lit.sameKey] using hl2
      have h6:=HU.o i e2 he2;rw [h5,HPJ.o] at h6;exact hij (Yae h6).symm
   case measure=>
    have ho4:Only (fun k=>k=g) w3 (w3.setCell ⟨g,j,none⟩ (.pointer (some ⟨B j,0,none⟩))):=(Yan (fun k=>k=g) w3).setCell (p:=⟨g,j,none⟩) rfl _;have h1:=(HG3.o.keep ho4 (fun q=>by have:=HGW.o;omega) (fun q=>by have:=HG1.o;omega)).left;rw [h1,HGL.o];exact HC3.o
