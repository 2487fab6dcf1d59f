/- laws -/
import Derived.Test.YtggcdinoflchjaaGreatDoorK13
import Derived.RegionTactic
import Derived.Deep.DeepCutAuto
set_option maxRecDepth 100000
set_option maxHeartbeats 16000000
namespace Go.Proofs.YtggcdinoflchjaaGreatDoor
open Go.RowKit
def Ent.par (e:Ent):List Nat:=e.up.toList++e.lk
theorem YesNo.shift {n:Nat} {J K:Nat->World->Prop} {w:World} {e:Ending} (h:YesNo (fun w'=>∃ k,k<n/\K (k+1) w') (J (n+1)) e w):YesNo (fun w'=>∃ k,k<n+1/\K k w') (J (n+1)) e w:=by
 obtain ⟨b,e1,h1,h2⟩:=h;exact ⟨b,e1,fun q=>by obtain ⟨k,hk,hK⟩:=h1 q;exact ⟨k+1,by omega,hK⟩,h2⟩
theorem ZfQ {A:Nat->Prop} {B:Nat->Nat} {T mb:Nat} {es:List Ent} {w0:World} (hT:Tab A w0 T mb B es) (F:Nat) (caps:Array Value) (i:Nat) (e:Ent) (hi:es[i]? = some e) (J K:Nat->World->Prop) (w:World) (he:∀ args w,(callFunc F args).run Tryz.prog w=.ok (.enter F args) w)
  (hJ:∀ k w',J k w'->Below w0.heap.size w0 w') (h0:J 0 w) (hF:ZiF B F caps e.par J K) (hlen:e.lk.length<=9223372036854775807) :
  Calls Tryz.prog 110 #[.pointer (some ⟨B i,0,none⟩),.func (.func F) #[] caps] w (YesNo (fun w'=>∃ k,k<e.par.length/\K k w') (J e.par.length)):=by
 obtain ⟨cls,up,lk⟩:=e;obtain ⟨lv,fv,mv,sv,hb,_,_,_,hs⟩:=hT.ent i _ hi;have HB:=Hd hb;have HS:=Hd hs;have HJ:=Hd hJ;have c9:=(hb.below (hJ 0 w h0)).cell 9 rfl;have c10:=(hb.below (hJ 0 w h0)).cell 10 rfl;cases up with
 | none=>
  have hpar:(Ent.mk cls none lk).par=lk:=rfl;rw [hpar] at hF ⊢;have c9':w.cell? ⟨B i,9,none⟩=some (.pointer none):=c9;have c10':w.cell? ⟨B i,10,none⟩=some sv:=c10;have HC:=Hd (Zfl (B:=B) (A:=A) F caps lk sv J K w he (fun k w' h=>(EntP.st B).below hs (hJ k w' h)) h0 hF hlen);clear hb hs hJ c9 c10 he h0 hF hlen hpar hi hT;go_enter Tryz.func110,Tryz.ntmps110
  go_wp2_with fail
  refine HC.o.mono ?_;rintro e w1 ⟨b,rfl,hy,hno⟩;have HY:=Hd hy;have HNO:=Hd hno;clear hy hno;cases b
  ·have HK:=Hd (HNO.o rfl);clear HY HNO;go_wp2;go_ret;exact ⟨false,rfl,(fun h=>by cases h),fun _=>HK.o⟩
  ·have HK:=Hd (HY.o rfl);clear HY HNO;go_wp2;go_ret;exact ⟨true,rfl,fun _=>HK.o,(fun h=>by cases h)⟩
 | some j=>
  have hpar:(Ent.mk cls (some j) lk).par=j :: lk:=rfl;rw [hpar] at hF ⊢;have c9':w.cell? ⟨B i,9,none⟩=some (.pointer (some ⟨B j,0,none⟩)):=c9;have HF0:=Hd (hF 0 j w rfl h0);have HC:Hid (∀ w',J 1 w'->Calls Tryz.prog 170 #[sv,.func (.func F) #[] caps] w' (YesNo (fun w'=>∃ k,k<lk.length+1/\K k w') (J (lk.length+1)))):=Hd (fun w' h1=>
   (Zfl (B:=B) (A:=A) F caps lk sv (fun k=>J (k+1)) (fun k=>K (k+1)) w' he (fun k w'' h=>(EntP.st B).below hs (hJ (k+1) w'' h)) h1 (fun k x w'' hx hj=>hF (k+1) x w'' (by simpa using hx) hj) hlen).mono (fun e w'' h=>h.shift))
  have HE:=Hd he;clear hb hs hJ c9 c10 he h0 hF hlen hpar hi hT;rw [YaJ];have he:=HE.o;go_enter Tryz.func110,Tryz.ntmps110
  go_wp2_with fail
  refine HF0.o.mono ?_;rintro e w1 ⟨b,rfl,hy,hno⟩;have HY:=Hd hy;have HNO:=Hd hno;clear hy hno he c9';cases b
  ·have HJ1:=Hd (HNO.o rfl);have d10:w1.cell? ⟨B i,10,none⟩=some sv:=(HB.o.below (HJ.o 1 w1 HJ1.o)).cell 10 rfl;clear HY HNO
   go_wp2_with fail
   refine (HC.o w1 HJ1.o).mono ?_;rintro e w2 ⟨b,rfl,hy,hno⟩;have HY:=Hd hy;have HNO:=Hd hno;clear hy hno d10;cases b
   ·have HK:=Hd (HNO.o rfl);clear HY HNO;go_wp2;go_ret;exact ⟨false,rfl,(fun h=>by cases h),fun _=>HK.o⟩
   ·have HK:=Hd (HY.o rfl);clear HY HNO;go_wp2;go_ret;exact ⟨true,rfl,fun _=>HK.o,(fun h=>by cases h)⟩
  ·have HK:=Hd (HY.o rfl);clear HY HNO;go_wp2;go_ret;exact ⟨true,rfl,fun _=>⟨0,Nat.succ_pos _,HK.o⟩,(fun h=>by cases h)⟩
def lkOf (es:List Ent) (i:Nat):List Nat:=match es[i]? with|some e=>e.lk|none=>[]
theorem Zbl {es:List Ent} {i:Nat} {e:Ent} (h:es[i]? = some e):lkOf es i=e.lk:=by unfold lkOf;rw [h]
def vis (es:List Ent):Nat->List Nat->List Nat->List Nat
 | 0,_,_=>[]
 | f+1,M,l=>l.foldl (fun acc d=>if (M++acc).contains d then acc else acc++d :: vis es f (M++acc++[d]) (lkOf es d)) []
def ZbA (es:List Ent) (f:Nat) (M acc:List Nat) (d:Nat):List Nat:=if (M++acc).contains d then acc else acc++d :: vis es f (M++acc++[d]) (lkOf es d)
def accV (es:List Ent) (f:Nat) (M l:List Nat) (k:Nat):List Nat:=(l.take k).foldl (ZbA es f M) []
theorem Zfd (es:List Ent) (f:Nat) (M l:List Nat):vis es (f+1) M l=accV es f M l l.length:=by
 unfold accV;rw [YaF];rfl
theorem Zl1 (es:List Ent) (f:Nat) (M l:List Nat):accV es f M l 0=[]:=rfl
theorem Zht (es:List Ent) (f:Nat) (M l:List Nat) (k d:Nat) (h:l[k]? = some d):accV es f M l (k+1)=ZbA es f M (accV es f M l k) d:=by
 unfold accV;rw [YaI,h,Ya8];rfl
theorem Zoh (es:List Ent) (f:Nat) (M acc:List Nat) (d:Nat):acc <+: ZbA es f M acc d:=by
 unfold ZbA;split
 ·exact List.prefix_rfl
 ·exact List.prefix_append _ _
theorem Zep (es:List Ent) (f:Nat) (M:List Nat):∀ (l acc:List Nat),acc <+: l.foldl (ZbA es f M) acc
 | [],_=>List.prefix_rfl
 | d :: l,acc=>(Zoh es f M acc d).trans (Zep es f M l _)
theorem ZgH (es:List Ent) (f:Nat) (M l:List Nat) (k:Nat):accV es f M l k <+: vis es (f+1) M l:=by
 rw [Zfd];unfold accV;rw [YaF]
 conv=>rhs;rw [←Ya2 k l,Ya8]
 exact Zep es f M _ _
def Deep (es:List Ent):Nat->List Nat->Prop
 | 0,l=>l=[]
 | f+1,l=>∀ d ∈ l,∃ e,es[d]? = some e/\Deep es f e.lk
theorem Zjk {α:Type} {a b:List α} (h:a <+: b) {k:Nat} {x:α} (hx:a[k]? = some x):b[k]? = some x:=by
 obtain ⟨c,rfl⟩:=h;rw [YaP (Yag.1 hx).1];exact hx
theorem Zrk {es:List Ent} {f:Nat} {M l:List Nat} {k d:Nat} (h:l[k]? = some d) (hn:(M++accV es f M l k).contains d=false) :
  (vis es (f+1) M l)[(accV es f M l k).length]? = some d/\(∀ (j x:Nat),(vis es f (M++accV es f M l k++[d]) (lkOf es d))[j]? = some x->(vis es (f+1) M l)[(accV es f M l k).length+1+j]? = some x)/\
  accV es f M l (k+1)=accV es f M l k++d :: vis es f (M++accV es f M l k++[d]) (lkOf es d):=by
 have hs:accV es f M l (k+1)=accV es f M l k++d :: vis es f (M++accV es f M l k++[d]) (lkOf es d):=by
  rw [Zht es f M l k d h];unfold ZbA;rw [hn];rfl
 have hp:=ZgH es f M l (k+1);refine ⟨Zjk hp ?_,fun j x hx=>Zjk hp ?_,hs⟩
 ·rw [hs,YaK (Yac _),Ycx];rfl
 ·rw [hs,YaK (by omega),show (accV es f M l k).length+1+j - (accV es f M l k).length=j+1 from by omega,List.getElem?_cons_succ];exact hx
theorem Zl0 {es:List Ent} {f:Nat} {M l:List Nat} {k d:Nat} (h:l[k]? = some d) (hn:(M++accV es f M l k).contains d=true):accV es f M l (k+1)=accV es f M l k:=by
 rw [Zht es f M l k d h];unfold ZbA;rw [hn];rfl
theorem ZcW:∀ (n:Nat) (l:List Nat),l.Nodup->(∀ x ∈ l,x<n)->l.length<=n
 | 0,l,_,h=>by
  cases l with
  | nil=>simp
  | cons x l=>exact absurd (h x Yak) (YbN _)
 | n+1,l,hd,h=>by
  have h1:=ZcW n (l.erase n) (hd.erase n) (fun x hx=>by
   have h2:=h x (List.mem_of_mem_erase hx);have h3:x ≠ n:=(hd.mem_erase_iff.1 hx).1;omega)
  have h2:=List.length_erase_le (a:=n) (l:=l);have h3:l.length<=(l.erase n).length+1:=by
   rw [List.length_erase];split <;> omega
  omega
theorem ZeF (es:List Ent):∀ (f:Nat) (M l:List Nat),M.Nodup->(M++vis es f M l).Nodup
 | 0,M,l,h=>by simpa [vis] using h
 | f+1,M,l,h=>by
  have go:∀ (l acc:List Nat),(M++acc).Nodup->(M++l.foldl (ZbA es f M) acc).Nodup:=by
   intro l;induction l with
   | nil=>intro acc ha;exact ha
   | cons d l ih=>
    intro acc ha;refine ih _ ?_;unfold ZbA;split
    ·exact ha
    ·rename_i hc
     have hc':d ∉ M++acc:=by simpa using hc
     have h1:(M++acc++[d]).Nodup:=by
      rw [Ycb];refine ⟨ha,by simp,fun a ha' b hb=>?_⟩;have:b=d:=by simpa using hb
      subst this;intro e;subst e;exact hc' ha'
     have h2:=ZeF es f _ (lkOf es d) h1
     simpa [YaY] using h2
  have:=go l [] (by simpa using h);rw [Zfd];unfold accV;rw [YaF];exact this
def Met (w:World) (mm:Nat) (M:List Nat):Prop:=
 ∃ m f h,MapF Tryz.prog 3 (.int .i64 0) w mm m f h/\m<=M.length/\∀ i:Nat,f (.int .i64 i)=.int .i64 (if M.contains i then 1 else 0)
theorem Met.keep {S:Nat->Prop} {w w':World} {mm:Nat} {M:List Nat} (q:Met w mm M) (ho:Only S w w') (hn:¬ S mm):Met w' mm M:=by
 obtain ⟨m,f,h,h1,h2,h3⟩:=q;exact ⟨m,f,h,h1.keep ho hn,h2,h3⟩
theorem Met.lt {w:World} {mm:Nat} {M:List Nat} (q:Met w mm M):mm<w.heap.size:=let ⟨_,_,_,h,_⟩:=q;h.lt
theorem Met.new (w:World):Met (w.alloc (.map #[] 0)) w.heap.size []:=⟨0,_,_,MapF.new _ _ _ _,Yac _,fun i=>by simp⟩
theorem ZhX:Maps.Keyed Tryz.prog 3:=Maps.int_keyed Tryz.underlying3
theorem Zne (i:Nat) (hi:i<=9223372036854775807):keyOf Tryz.prog 3 (.int .i64 i)=some (.int .i64 i):=
 Maps.keyOf_int_mk Tryz.underlying3 (WalkArith.wf_i64 (by omega))
theorem ZpL (w:World):(zeroValue 3).run Tryz.prog w=.ok (.int .i64 0) w:=by kernel_rfl
theorem Met.look {w:World} {mm:Nat} {M:List Nat} (q:Met w mm M) (i:Nat) (hi:i<=9223372036854775807) :
  (Instr.lookup 197 (.map (some mm)) (.int .i64 i) false).run Tryz.prog w=.ok (.int .i64 (if M.contains i then 1 else 0)) w:=by
 obtain ⟨m,f,h,h1,h2,h3⟩:=q;rw [h1.look ZhX Tryz.underlying197 (ZpL w) (Zne i hi),h3]
theorem Met.put {w:World} {mm:Nat} {M:List Nat} (q:Met w mm M) (i:Nat) (hi:i<=9223372036854775807) (hM:M.length<9223372036854775807) :
  (Instr.mapUpdate 197 (.map (some mm)) (.int .i64 i) (.int .i64 1)).run Tryz.prog w=.ok () (putW Tryz.prog 197 (.map (some mm)) (.int .i64 i) (.int .i64 1) w)/\
   Met (putW Tryz.prog 197 (.map (some mm)) (.int .i64 i) (.int .i64 1) w) mm (M++[i])/\Only (fun k=>k=mm) w (putW Tryz.prog 197 (.map (some mm)) (.int .i64 i) (.int .i64 1) w)/\
   (putW Tryz.prog 197 (.map (some mm)) (.int .i64 i) (.int .i64 1) w).heap.size=w.heap.size:=by
 obtain ⟨m,f,h,h1,h2,h3⟩:=q;obtain ⟨r1,r2,r3,r4⟩:=h1.put ZhX Tryz.underlying197 (by unfold maxLen;omega) (val:=.int .i64 1) (Zne i hi);refine ⟨r1,⟨_,_,_,r2,?_,fun j=>?_⟩,r3,r4⟩
 ·rw [Yal];split <;> simp <;> omega
 ·by_cases e:j=i
  ·subst e;rw [Zcc];simp
  ·have hne:(Lit.int .i64 (j:Int)) ≠ .int .i64 (i:Int):=by
    intro h
    injection h with _ h
    omega
   rw [Zbj _ _ hne,h3];have:(M++[i]).contains j=M.contains j:=by simp [e]
   rw [this]
theorem ZjP {A:Nat->Prop} {B:Nat->Nat} {T mb:Nat} {es:List Ent} {w0:World} (hT:Tab A w0 T mb B es) (F:Nat) (caps:Array Value) (mm i:Nat) (e:Ent) (hi:es[i]? = some e) (J K:Nat->World->Prop) (w:World) (hw:Below w0.heap.size w0 w)
  (hJ:∀ k w',J k w'->Below w0.heap.size w0 w')
  (h0:J 0 ((w.alloc (.cells #[.map (some mm)] 197)).alloc (.cells #[.func (.func F) #[] caps] 121)))
  (hF:ZiF B 246 #[.pointer (some ⟨w.heap.size,0,none⟩),.pointer (some ⟨w.heap.size+1,0,none⟩)] e.lk J K) (hlen:e.lk.length<=9223372036854775807) :
  Calls Tryz.prog 225 #[.pointer (some ⟨B i,0,none⟩),.map (some mm),.func (.func F) #[] caps] w (YesNo (fun w'=>∃ k,k<e.lk.length/\K k w') (J e.lk.length)):=by
 have hmf:∀ (fn:Fn) (first cap:Array Value) (w:World),(Instr.makeFunc fn first cap).run Tryz.prog w=.ok (.func fn first cap) w:=fun _ _ _ _=>rfl
 obtain ⟨lv,fv,mv,sv,hb,_,_,_,hs⟩:=hT.ent i _ hi;have HC:=Hd (Zfl (B:=B) (A:=A) 246 _ e.lk sv J K _ (Zah Tryz.func246 (by kernel_rfl) rfl) (fun k w' h=>(EntP.st B).below hs (hJ k w' h)) h0 hF hlen);have hbe:Below w0.heap.size w0 ((w.alloc (.cells #[.map (some mm)] 197)).alloc (.cells #[.func (.func F) #[] caps] 121)):=Zaa (Zaa hw _) _;have c10:((w.alloc (.cells #[.map (some mm)] 197)).alloc (.cells #[.func (.func F) #[] caps] 121)).cell? ⟨B i,10,none⟩=some sv:=(hb.below hbe).cell 10 rfl;generalize e.lk.length=n at HC ⊢;clear hb hs hJ h0 hF hlen hi hT hw hbe;go_enter Tryz.func225,Tryz.ntmps225
 go_wp2_with fail
 refine HC.o.mono ?_;rintro e w1 ⟨b,rfl,hy,hno⟩;have HY:=Hd hy;have HNO:=Hd hno;clear hy hno c10 hmf;cases b
 ·have HK:=Hd (HNO.o rfl);clear HY HNO;go_wp2;go_ret;exact ⟨false,rfl,(fun h=>by cases h),fun _=>HK.o⟩
 ·have HK:=Hd (HY.o rfl);clear HY HNO;go_wp2;go_ret;exact ⟨true,rfl,fun _=>HK.o,(fun h=>by cases h)⟩
def ZpO (B:Nat->Nat) (F:Nat) (caps:Array Value) (mm b1 b2 d:Nat) (Y N:World->Prop) (w:World):Prop:=
 w.cell? ⟨b1,0,none⟩=some (.map (some mm))/\w.cell? ⟨b2,0,none⟩=some (.func (.func F) #[] caps)/\
  Calls Tryz.prog 225 #[.pointer (some ⟨B d,0,none⟩),.map (some mm),.func (.func F) #[] caps] w (YesNo Y N)
theorem ZmP {A:Nat->Prop} {B:Nat->Nat} {T mb:Nat} {es:List Ent} {w0:World} (hT:Tab A w0 T mb B es) (F:Nat) (caps:Array Value) (mm b1 b2 d:Nat) (M:List Nat) (Y N:World->Prop) (w:World) (he:∀ args w,(callFunc F args).run Tryz.prog w=.ok (.enter F args) w)
  (hd:d<es.length) (hn:es.length<=1048576) (hM:M.length<9223372036854775807) (hw:Below w0.heap.size w0 w) (hm:Met w mm M) (hb2:b2 ≠ mm)
  (c1:w.cell? ⟨b1,0,none⟩=some (.map (some mm))) (c2:w.cell? ⟨b2,0,none⟩=some (.func (.func F) #[] caps))
  (hyes:M.contains d=true->∀ w',Below w.heap.size w w'->N w')
  (hno:M.contains d=false->∀ w',Only (fun k=>k=mm) w w'->Met w' mm (M++[d])->Calls Tryz.prog F (#[entV B d]++caps) w' (YesNo Y (ZpO B F caps mm b1 b2 d Y N))) :
  Calls Tryz.prog 246 #[.pointer (some ⟨B d,0,none⟩),.pointer (some ⟨b1,0,none⟩),.pointer (some ⟨b2,0,none⟩)] w (YesNo Y N):=by
 obtain ⟨lv,fv,mv,sv,hb,hrest⟩:=hT.ent d es[d] (Yaa hd);clear hrest;have h0:Below w.heap.size w w:=Yab _ _;have hdl:d<=9223372036854775807:=by omega
 cases hc:M.contains d with
 | true=>
  have HS:Hid (∀ W,Below w.heap.size w W->W.cell? ⟨b1,0,none⟩=some (.map (some mm))/\W.cell? ⟨B d,0,none⟩=some (.int .i64 d)/\(Instr.lookup 197 (.map (some mm)) (.int .i64 d) false).run Tryz.prog W=.ok (.int .i64 1) W):=Hd (fun W hW=>by
   have ho:=Yaf (S:=fun _=>False) hW;refine ⟨ho.cell c1 id,(hb.below (hw.trans (hW.mono hw.size))).cell 0 rfl,?_⟩;have:=(hm.keep ho id).look d hdl;rw [hc] at this;exact this)
  have HY:=Hd (hyes hc);clear hyes hno hT hd hn hM hw hm hb2 hc he hb c1 c2 hdl;obtain ⟨g1,g2,g3⟩:=HS.o w h0;go_enter Tryz.func246,Tryz.ntmps246
  go_upto_region 1 with fail
  first
  | (go_region_held (fun W=>W.cell? ⟨b1,0,none⟩=some (.map (some mm))/\W.cell? ⟨B d,0,none⟩=some (.int .i64 d)/\(Instr.lookup 197 (.map (some mm)) (.int .i64 d) false).run Tryz.prog W=.ok (.int .i64 1) W) ((refine HS.o _ ?_;(repeat (first|(with_reducible exact Yab _ _)|(with_reducible assumption)|(with_reducible refine Zab ?_))))) (fail))
  | fail
  all_goals
   clear g1 g2 g3;go_wp2;go_ret;exact ⟨false,rfl,(fun h=>by cases h),fun _=>HY.o _ (by (repeat (first|(with_reducible exact Yab _ _)|(with_reducible refine Zab ?_))))⟩
 | false=>
  have HS:Hid (∀ W,Below w.heap.size w W->W.cell? ⟨b1,0,none⟩=some (.map (some mm))/\W.cell? ⟨B d,0,none⟩=some (.int .i64 d)/\(Instr.lookup 197 (.map (some mm)) (.int .i64 d) false).run Tryz.prog W=.ok (.int .i64 0) W):=Hd (fun W hW=>by
   have ho:=Yaf (S:=fun _=>False) hW;refine ⟨ho.cell c1 id,(hb.below (hw.trans (hW.mono hw.size))).cell 0 rfl,?_⟩;have:=(hm.keep ho id).look d hdl;rw [hc] at this;exact this)
  have HP:Hid (∀ W,Below w.heap.size w W->(Instr.mapUpdate 197 (.map (some mm)) (.int .i64 d) (.int .i64 1)).run Tryz.prog W=.ok () (putW Tryz.prog 197 (.map (some mm)) (.int .i64 d) (.int .i64 1) W)):=Hd (fun W hW=>((hm.keep (Yaf (S:=fun _=>False) hW) id).put d hdl hM).1);have HN:Hid (∀ W,Below w.heap.size w W->(putW Tryz.prog 197 (.map (some mm)) (.int .i64 d) (.int .i64 1) W).cell? ⟨b2,0,none⟩=some (.func (.func F) #[] caps)/\Calls Tryz.prog F (#[entV B d]++caps) (putW Tryz.prog 197 (.map (some mm)) (.int .i64 d) (.int .i64 1) W) (YesNo Y (ZpO B F caps mm b1 b2 d Y N))):=Hd (fun W hW=>by
   have ho:=Yaf (S:=fun k=>k=mm) hW;obtain ⟨_,q2,q3,_⟩:=(hm.keep (Yaf (S:=fun _=>False) hW) id).put d hdl hM;exact ⟨q3.cell (ho.cell c2 hb2) hb2,hno hc _ (ho.trans q3) q2⟩)
  have HE:=Hd he;clear hyes hno hT hd hn hM hw hm hb2 hc he hb c1 c2 hdl;obtain ⟨g1,g2,g3⟩:=HS.o w h0;go_enter Tryz.func246,Tryz.ntmps246
  go_upto_region 1 with fail
  first
  | (go_region_held (fun W=>W.cell? ⟨b1,0,none⟩=some (.map (some mm))/\W.cell? ⟨B d,0,none⟩=some (.int .i64 d)/\(Instr.lookup 197 (.map (some mm)) (.int .i64 d) false).run Tryz.prog W=.ok (.int .i64 0) W) ((refine HS.o _ ?_;(repeat (first|(with_reducible exact Yab _ _)|(with_reducible assumption)|(with_reducible refine Zab ?_))))) (fail))
  | fail
  all_goals
   clear g1 g2 g3
   go_upto_region 3 with fail
   obtain ⟨g1,g2,g3⟩:=HS.o _ (Zab (Zab h0));have g4:=HP.o _ (Zab (Zab h0));have hw1:IntKind.i64.wrap 1=1:=by decide
   go_region
   all_goals
    clear g1 g2 g3 g4 hw1;have hq:=HN.o _ (Zab (Zab h0));obtain ⟨d2,hcall⟩:=hq;have HCALL:=Hd hcall;have he:=HE.o;clear hcall HS HP HN;generalize putW Tryz.prog 197 (.map (some mm)) (.int .i64 d) (.int .i64 1) w.drew.drew=w1 at d2 HCALL ⊢
    go_wp2_with fail
    refine HCALL.o.mono ?_;rintro e1 w2 ⟨b,rfl,hy,hno⟩;have HY:=Hd hy;have HNO:=Hd hno;clear he d2 hy hno HCALL;cases b with
    | true=>
     have HK:=Hd (HY.o rfl);clear HY HNO;go_wp2;go_ret;exact ⟨true,rfl,fun _=>HK.o,(fun h=>by cases h)⟩
    | false=>
     obtain ⟨q1,q2,q3⟩:=HNO.o rfl;have HQ:=Hd q3;clear HY HNO q3
     go_wp2_with fail
     refine HQ.o.mono ?_;rintro e1 w3 ⟨b,rfl,hy,hno⟩;have HY:=Hd hy;have HNO:=Hd hno;clear q1 q2 hy hno HQ;cases b
     ·have HK:=Hd (HNO.o rfl);clear HY HNO;go_wp2;go_ret;exact ⟨false,rfl,(fun h=>by cases h),fun _=>HK.o⟩
     ·have HK:=Hd (HY.o rfl);clear HY HNO;go_wp2;go_ret;exact ⟨true,rfl,fun _=>HK.o,(fun h=>by cases h)⟩
def ZlY (B:Nat->Nat) (F:Nat) (caps:Array Value) (lo:Nat) (L:List Nat) (J K:Nat->World->Prop):Prop:=
 ∀ (k x:Nat) (w:World),L[k]? = some x->J k w->Calls Tryz.prog F (#[entV B x]++caps) w (fun e w'=>YesNo (K k) (J (k+1)) e w'/\Only (fun b=>b<lo) w w')
def ZlW (lo:Nat) (J:Nat->World->Prop):Prop:=∀ k w w',J k w->Only (fun b=>lo<=b) w w'->J k w'
theorem Ziz {es:List Ent}:∀ (f:Nat) (M l:List Nat),Deep es f l->∀ x ∈ vis es f M l,x<es.length
 | 0,M,l,_,x,hx=>by simp [vis] at hx
 | f+1,M,l,hd,x,hx=>by
  rw [Zfd] at hx;unfold accV at hx;rw [YaF] at hx;have go:∀ (r acc:List Nat),(∀ d ∈ r,∃ e,es[d]? = some e/\Deep es f e.lk)->(∀ y ∈ acc,y<es.length)->∀ y ∈ r.foldl (ZbA es f M) acc,y<es.length:=by
   intro r;induction r with
   | nil=>intro acc _ ha;exact ha
   | cons d r ih=>
    intro acc hr ha;refine ih _ (fun q hq=>hr q (Yas _ hq)) ?_;unfold ZbA;split
    ·exact ha
    ·obtain ⟨e,he,hde⟩:=hr d Yak;intro y hy;rcases Yap.1 hy with h1|h1
     ·exact ha y h1
     ·rcases Yau.1 h1 with h2|h2
      ·subst h2;exact (Yag.1 he).1
      ·rw [Zbl he] at h2;exact Ziz f _ _ hde y h2
  exact go l [] hd (by simp) x hx
theorem Zic {M a b:List Nat} (h:(M++b).Nodup) (hp:a <+: b):(M++a).Nodup:=by
 obtain ⟨r,rfl⟩:=hp;rw [←YaY] at h;exact (Ycb.1 h).1
theorem ZmR {A:Nat->Prop} {B:Nat->Nat} {T mb:Nat} {es:List Ent} {w0:World} (hT:Tab A w0 T mb B es) (hn:es.length<=1048576) (hlk:∀ (i:Nat) (e:Ent),es[i]? = some e->e.lk.length<=9223372036854775807) (F:Nat) (caps:Array Value)
  (he:∀ args w,(callFunc F args).run Tryz.prog w=.ok (.enter F args) w) (lo mm:Nat) (hmm:lo<=mm) :
  ∀ (f:Nat) (i:Nat) (e:Ent) (M:List Nat) (J K:Nat->World->Prop) (w:World),es[i]? = some e->Deep es f e.lk->M.Nodup->(∀ x ∈ M,x<es.length)->(∀ k w',J k w'->Below w0.heap.size w0 w')->ZlW lo J->
   ZlY B F caps lo (vis es f M e.lk) J K->J 0 w->Met w mm M->
   Calls Tryz.prog 225 #[.pointer (some ⟨B i,0,none⟩),.map (some mm),.func (.func F) #[] caps] w
    (YesNo (fun w'=>∃ k,k<(vis es f M e.lk).length/\K k w') (fun w'=>J (vis es f M e.lk).length w'/\Met w' mm (M++vis es f M e.lk)/\Only (fun b=>b<lo\/b=mm) w w')):=by
 intro f;induction f with
 | zero=>
  intro i e M J K w hi hd hM1 hM2 hJ hJs hF h0 hmet;have hl:e.lk=[]:=hd;have hon:∀ (a b:Obj),Only (fun k=>k<lo\/k=mm) w ((w.alloc a).alloc b):=fun a b=>((Yam _ w).alloc a).alloc b
  have hon2:∀ (a b:Obj),Only (fun k=>lo<=k) w ((w.alloc a).alloc b):=fun a b=>((Yam _ w).alloc a).alloc b
  have hon3:∀ (a b:Obj),Only (fun _=>False) w ((w.alloc a).alloc b):=fun a b=>((Yam _ w).alloc a).alloc b
  have h:=ZjP hT F caps mm i e hi (fun _ w'=>J 0 w'/\Met w' mm M/\Only (fun b=>b<lo\/b=mm) w w') (fun k w'=>K k w') w (hJ 0 w h0) (fun k w' h=>hJ 0 w' h.1) ⟨hJs _ _ _ h0 (hon2 _ _),hmet.keep (hon3 _ _) id,hon _ _⟩
   (fun k x w' hx _=>by rw [hl] at hx;simp at hx) (hlk i e hi)
  rw [hl] at h;rw [hl];refine h.mono fun e' w' q=>q.mono (fun w'' q=>?_) (fun w'' q=>?_)
  ·obtain ⟨k,hk,_⟩:=q;simp at hk
  ·exact ⟨q.1,by simpa [vis] using q.2.1,q.2.2⟩
 | succ f ih=>
  intro i e M J K w hi hd hM1 hM2 hJ hJs hF h0 hmet;have hon:∀ (a b:Obj),Only (fun k=>k<lo\/k=mm) w ((w.alloc a).alloc b):=fun a b=>((Yam _ w).alloc a).alloc b
  have hon2:∀ (a b:Obj),Only (fun k=>lo<=k) w ((w.alloc a).alloc b):=fun a b=>((Yam _ w).alloc a).alloc b
  have hon3:∀ (a b:Obj),Only (fun _=>False) w ((w.alloc a).alloc b):=fun a b=>((Yam _ w).alloc a).alloc b
  have hsz:=hmet.lt;have hws:lo<=w.heap.size:=by omega
  have hin:=Ziz (f+1) M e.lk hd;have hfr:(M++vis es (f+1) M e.lk).Nodup:=ZeF es (f+1) M e.lk hM1;have h:=ZjP hT F caps mm i e hi
   (fun k w'=>J (accV es f M e.lk k).length w'/\Met w' mm (M++accV es f M e.lk k)/\Only (fun b=>b<lo\/b=mm) w w'/\w'.cell? ⟨w.heap.size,0,none⟩=some (.map (some mm))/\w'.cell? ⟨w.heap.size+1,0,none⟩=some (.func (.func F) #[] caps))
   (fun _ w'=>∃ k,k<(vis es (f+1) M e.lk).length/\K k w') w (hJ 0 w h0) (fun k w' h=>hJ _ w' h.1)
   ⟨hJs _ _ _ h0 (hon2 _ _),by rw [Zl1,Ya3];exact hmet.keep (hon3 _ _) id,hon _ _,by simp,by simp⟩
   (fun k d w' hx ⟨hj,hm',ho,c1,c2⟩=>by
    obtain ⟨ed,hed,hdd⟩:=hd d (Yad hx);have hdl:d<es.length:=(Yag.1 hed).1;have hpre:=ZgH es f M e.lk k;have hacc:(M++accV es f M e.lk k).Nodup:=Zic hfr hpre;have haccl:∀ x ∈ M++accV es f M e.lk k,x<es.length:=fun x hx=>by
     rcases Yap.1 hx with h1|h1
     ·exact hM2 x h1
     ·exact hin x (hpre.subset h1)
    have hlen:=ZcW es.length _ hacc haccl;refine ZmP hT F caps mm w.heap.size (w.heap.size+1) d (M++accV es f M e.lk k) _ _ w' he hdl hn (by omega) (hJ _ w' hj) hm' (by omega) c1 c2 (fun hc w'' hw''=>?_) (fun hc w1 ho1 hm1=>?_)
    ·have ho2:=Yaf (S:=fun _=>False) hw'';show J (accV es f M e.lk (k+1)).length w''/\Met w'' mm (M++accV es f M e.lk (k+1))/\_
     rw [Zl0 hx hc];exact ⟨hJs _ _ _ hj (Yaf hw''),hm'.keep ho2 id,ho.then (Yaf (S:=fun _=>False) hw'') (fun _ _ h=>h.elim),ho2.cell c1 id,ho2.cell c2 id⟩
    ·obtain ⟨v1,v2,v3⟩:=Zrk hx hc;have hj1:J (accV es f M e.lk k).length w1:=hJs _ _ _ hj (ho1.mono (fun b _ h=>by subst h;exact hmm));have hkl:(accV es f M e.lk k).length<(vis es (f+1) M e.lk).length:=(Yag.1 v1).1;have hp1:accV es f M e.lk k++[d] <+: vis es (f+1) M e.lk:=by
      have:=ZgH es f M e.lk (k+1);rw [v3] at this;exact (show accV es f M e.lk k++[d] <+: accV es f M e.lk k++d :: _ from ⟨_,by rw [YaY];rfl⟩).trans this
     rw [Zbl hed] at v2 v3;refine (hF _ d w1 v1 hj1).mono fun e1 w2 q=>?_
     obtain ⟨⟨b,e2,hy,hno⟩,ho2⟩:=q;have ho12:Only (fun b=>b<lo\/b=mm) w' w2:=(ho1.mono (fun b _ h=>Or.inr h)).trans (ho2.mono (fun b _ h=>Or.inl h));have d1:=ho12.cell c1 (show ¬ (w.heap.size<lo\/w.heap.size=mm) by omega);have d2:=ho12.cell c2 (show ¬ (w.heap.size+1<lo\/w.heap.size+1=mm) by omega);refine ⟨b,e2,fun hb=>⟨_,hkl,hy hb⟩,fun hb=>⟨d1,d2,?_⟩⟩;refine (ih d ed (M++accV es f M e.lk k++[d]) (fun j=>J ((accV es f M e.lk k).length+1+j)) (fun j=>K ((accV es f M e.lk k).length+1+j)) w2 hed hdd (by rw [YaY];exact Zic hfr hp1)
      (fun x hx=>by
       rw [YaY] at hx;rcases Yap.1 hx with h1|h1
       ·exact hM2 x h1
       ·exact hin x (hp1.subset h1))
      (fun j w3 h3=>hJ _ w3 h3) (fun j w3 w4 h3 h4=>hJs _ w3 w4 h3 h4) (fun j x w3 hx3 hj3=>hF _ x w3 (v2 j x hx3) hj3) (hno hb) (hm1.keep ho2 (show ¬ mm<lo by omega))).mono fun e3 w3 q=>?_
     obtain ⟨b3,e3',hy3,hno3⟩:=q;refine ⟨b3,e3',fun hb3=>?_,fun hb3=>?_⟩
     ·obtain ⟨j,hj3,hk3⟩:=hy3 hb3;exact ⟨_,(Yag.1 (v2 j _ (Yaa hj3))).1,hk3⟩
     ·obtain ⟨r1,r2,r3⟩:=hno3 hb3;show J (accV es f M e.lk (k+1)).length w3/\Met w3 mm (M++accV es f M e.lk (k+1))/\_
      rw [v3];refine ⟨?_,?_,ho.trans (ho12.mono fun b _ h=>h) |>.trans r3,r3.cell d1 (show ¬ (w.heap.size<lo\/w.heap.size=mm) by omega),r3.cell d2 (show ¬ (w.heap.size+1<lo\/w.heap.size+1=mm) by omega)⟩
      ·rw [Yal,YaJ,show (accV es f M e.lk k).length+((vis es f (M++accV es f M e.lk k++[d]) ed.lk).length+1)=(accV es f M e.lk k).length+1+(vis es f (M++accV es f M e.lk k++[d]) ed.lk).length from by omega];exact r1
      ·have:M++(accV es f M e.lk k++d :: vis es f (M++accV es f M e.lk k++[d]) ed.lk)=M++accV es f M e.lk k++[d]++vis es f (M++accV es f M e.lk k++[d]) ed.lk:=by simp
       rw [this];exact r2)
   (hlk i e hi)
  refine h.mono fun e' w' q=>q.mono (fun w'' q=>q.choose_spec.2) (fun w'' q=>?_)
  rw [Zfd];exact ⟨q.1,q.2.1,q.2.2.1⟩
def ifsL (es:List Ent) (f:Nat) (L:List Nat):List Nat:=L.foldl (fun acc d=>acc++vis es f acc (lkOf es d)) []
def Zc2 (es:List Ent) (f:Nat) (L:List Nat):List Nat:=L++ifsL es f L
def ifsK (es:List Ent) (f:Nat) (L:List Nat) (k:Nat):List Nat:=(L.take k).foldl (fun acc d=>acc++vis es f acc (lkOf es d)) []
theorem Zo0 (es:List Ent) (f:Nat) (L:List Nat):ifsK es f L L.length=ifsL es f L:=by unfold ifsK ifsL;rw [YaF]
theorem ZmQ {es:List Ent} {f:Nat} {L:List Nat} {k d:Nat} (h:L[k]? = some d):ifsK es f L (k+1)=ifsK es f L k++vis es f (ifsK es f L k) (lkOf es d):=by
 unfold ifsK;rw [YaI,h,Ya8];rfl
theorem ZdQ (es:List Ent) (f:Nat):∀ (l acc:List Nat),acc <+: l.foldl (fun acc d=>acc++vis es f acc (lkOf es d)) acc
 | [],_=>List.prefix_rfl
 | _ :: l,_=>(List.prefix_append _ _).trans (ZdQ es f l _)
theorem ZjO (es:List Ent) (f:Nat) (L:List Nat) (k:Nat):ifsK es f L k <+: ifsL es f L:=by
 unfold ifsK ifsL
 conv=>rhs;rw [←Ya2 k L,Ya8]
 exact ZdQ es f _ _
theorem ZhS {es:List Ent} {f:Nat} {L:List Nat} (hL:∀ d ∈ L,∃ e,es[d]? = some e/\Deep es f e.lk):(ifsL es f L).Nodup/\∀ x ∈ ifsL es f L,x<es.length:=by
 have go:∀ (r acc:List Nat),(∀ d ∈ r,∃ e,es[d]? = some e/\Deep es f e.lk)->acc.Nodup->(∀ x ∈ acc,x<es.length)->
   (r.foldl (fun acc d=>acc++vis es f acc (lkOf es d)) acc).Nodup/\∀ x ∈ r.foldl (fun acc d=>acc++vis es f acc (lkOf es d)) acc,x<es.length:=by
  intro r;induction r with
  | nil=>intro acc _ h1 h2;exact ⟨h1,h2⟩
  | cons d r ih=>
   intro acc hr h1 h2;obtain ⟨e,he,hd⟩:=hr d Yak;refine ih _ (fun q hq=>hr q (Yas _ hq)) (ZeF es f acc _ h1) (fun x hx=>?_);rcases Yap.1 hx with h3|h3
   ·exact h2 x h3
   ·rw [Zbl he] at h3;exact Ziz f _ _ hd x h3
 exact go L [] hL Ycc (by simp)
theorem ZlZ {B:Nat->Nat} (F:Nat) (caps:Array Value) (mm b1 b2 d:Nat) (Y N:World->Prop) (w:World)
  (c1:w.cell? ⟨b1,0,none⟩=some (.map (some mm))) (c2:w.cell? ⟨b2,0,none⟩=some (.func (.func F) #[] caps))
  (h:Calls Tryz.prog 225 #[.pointer (some ⟨B d,0,none⟩),.map (some mm),.func (.func F) #[] caps] w (YesNo Y N)) :
  Calls Tryz.prog 231 #[.pointer (some ⟨B d,0,none⟩),.pointer (some ⟨b1,0,none⟩),.pointer (some ⟨b2,0,none⟩)] w (YesNo Y N):=by
 have H:=Hd h;clear h;go_enter Tryz.func231,Tryz.ntmps231
 go_wp2_with fail
 refine H.o.mono ?_;rintro e1 w3 ⟨b,rfl,hy,hno⟩;have HY:=Hd hy;have HNO:=Hd hno;clear c1 c2 hy hno H;cases b
 ·have HK:=Hd (HNO.o rfl);clear HY HNO;go_wp2;go_ret;exact ⟨false,rfl,(fun h=>by cases h),fun _=>HK.o⟩
 ·have HK:=Hd (HY.o rfl);clear HY HNO;go_wp2;go_ret;exact ⟨true,rfl,fun _=>HK.o,(fun h=>by cases h)⟩
noncomputable def abvW (F:Nat) (caps:Array Value) (w:World):World:=((w.alloc (.cells #[.func (.func F) #[] caps] 121)).alloc (.map #[] 0)).alloc (.cells #[.map (some (w.heap.size+1))] 197)
theorem Zkc (F:Nat) (caps:Array Value) (pv:Value) (Y N:World->Prop) (w:World)
  (h:Calls Tryz.prog 125 #[pv,.func (.func F) #[] caps] (abvW F caps w) (YesNo Y (fun w1=>
   Calls Tryz.prog 125 #[pv,.func (.func 231) #[] #[.pointer (some ⟨w.heap.size+1+1,0,none⟩),.pointer (some ⟨w.heap.size,0,none⟩)]] w1 (YesNo Y N)))) :
  Calls Tryz.prog 192 #[pv,.func (.func F) #[] caps] w (YesNo Y N):=by
 have hmf:∀ (fn:Fn) (first cap:Array Value) (w:World),(Instr.makeFunc fn first cap).run Tryz.prog w=.ok (.func fn first cap) w:=fun _ _ _ _=>rfl
 have hmm:=@run_makeMap Tryz.prog;unfold abvW at h;have H:=Hd h;clear h;go_enter Tryz.func192,Tryz.ntmps192
 go_upto_region 2 with fail
 clear hmm
 go_wp2_with fail
 refine H.o.mono ?_;rintro e1 w3 ⟨b,rfl,hy,hno⟩;have HY:=Hd hy;have HNO:=Hd hno;clear hy hno H;cases b
 ·have HK:=Hd (HNO.o rfl);clear HY HNO
  go_wp2_with fail
  refine HK.o.mono ?_;rintro e1 w4 ⟨b,rfl,hy,hno⟩;have HY:=Hd hy;have HNO:=Hd hno;clear hy hno HK;cases b
  ·have HK:=Hd (HNO.o rfl);clear HY HNO;go_wp2;go_ret;exact ⟨false,rfl,(fun h=>by cases h),fun _=>HK.o⟩
  ·have HK:=Hd (HY.o rfl);clear HY HNO;go_wp2;go_ret;exact ⟨true,rfl,fun _=>HK.o,(fun h=>by cases h)⟩
 ·have HK:=Hd (HY.o rfl);clear HY HNO;go_wp2;go_ret;exact ⟨true,rfl,fun _=>HK.o,(fun h=>by cases h)⟩
theorem Zhs {A:Nat->Prop} {B:Nat->Nat} {T mb:Nat} {es:List Ent} {w0:World} (hT:Tab A w0 T mb B es) (hn:es.length<=1048576) (hlk:∀ (i:Nat) (e:Ent),es[i]? = some e->e.lk.length<=9223372036854775807) (F:Nat) (caps:Array Value)
  (he:∀ args w,(callFunc F args).run Tryz.prog w=.ok (.enter F args) w) (lo f:Nat) (o:Option Nat) (L:List Nat) (hc:ZdK es L o) (hL:∀ d ∈ L,∃ e,es[d]? = some e/\Deep es f e.lk) (J K:Nat->World->Prop) (w:World) (hlo:lo<=w.heap.size)
  (hJ:∀ k w',J k w'->Below w0.heap.size w0 w') (hJs:ZlW lo J) (hF:ZlY B F caps lo (Zc2 es f L) J K) (h0:J 0 w) :
  Calls Tryz.prog 192 #[ptrV B o,.func (.func F) #[] caps] w (YesNo (fun w'=>∃ k,k<(Zc2 es f L).length/\K k w') (J (Zc2 es f L).length)):=by
 have hlen:(Zc2 es f L).length=L.length+(ifsL es f L).length:=by unfold Zc2;rw [Yal]
 have hW:Only (fun b=>lo<=b) w (abvW F caps w):=(((Yam _ w).alloc _).alloc _).alloc _;have c1:(abvW F caps w).cell? ⟨w.heap.size+1+1,0,none⟩=some (.map (some (w.heap.size+1))):=by
  have q:=(Box.new ((w.alloc (.cells #[.func (.func F) #[] caps] 121)).alloc (.map #[] 0)) #[.map (some (w.heap.size+1))] 197).cell 0 rfl;have e:((w.alloc (.cells #[.func (.func F) #[] caps] 121)).alloc (.map #[] 0)).heap.size=w.heap.size+1+1:=by simp
  rw [e] at q;exact q
 have c2:(abvW F caps w).cell? ⟨w.heap.size,0,none⟩=some (.func (.func F) #[] caps):=
  ((Box.new w #[.func (.func F) #[] caps] 121).below (Zaa (Zaa (Yab _ _) _) _)).cell 0 rfl
 have hm:Met (abvW F caps w) (w.heap.size+1) []:=by
  have h1:=Met.new (w.alloc (.cells #[.func (.func F) #[] caps] 121));have h2:(w.alloc (.cells #[.func (.func F) #[] caps] 121)).heap.size=w.heap.size+1:=by simp
  rw [h2] at h1;exact h1.keep ((Yam (fun _=>False) _).alloc _) id
 obtain ⟨hg1,hg2⟩:=ZhS hL;refine Zkc F caps _ _ _ w ?_;have l1:=Zfa hT F caps L o (fun k w'=>J k w'/\Only (fun b=>b<lo) (abvW F caps w) w') (fun k w'=>K k w') (abvW F caps w) he hc (fun k w' h=>hJ k w' h.1) ⟨hJs 0 _ _ h0 hW,Yam _ _⟩
  (fun k x w' hx hj=>(hF k x w' (by unfold Zc2;rw [YaP (Yag.1 hx).1];exact hx) hj.1).mono fun e w'' q=>q.1.mono' (fun h=>h) (fun h=>⟨h,hj.2.trans q.2⟩))
 refine l1.mono fun e w' q=>q.mono (fun w1 ⟨k,hk,hK⟩=>⟨k,by omega,hK⟩) (fun w1 ⟨hj1,ho1⟩=>?_)
 have d1:=ho1.cell c1 (show ¬ w.heap.size+1+1<lo by omega);have d2:=ho1.cell c2 (show ¬ w.heap.size<lo by omega);have hm1:=hm.keep ho1 (show ¬ w.heap.size+1<lo by omega);have l2:=Zfa hT 231 #[.pointer (some ⟨w.heap.size+1+1,0,none⟩),.pointer (some ⟨w.heap.size,0,none⟩)] L o
  (fun k w'=>J (L.length+(ifsK es f L k).length) w'/\Met w' (w.heap.size+1) (ifsK es f L k)/\w'.cell? ⟨w.heap.size+1+1,0,none⟩=some (.map (some (w.heap.size+1)))/\w'.cell? ⟨w.heap.size,0,none⟩=some (.func (.func F) #[] caps))
  (fun _ w'=>∃ k,k<(Zc2 es f L).length/\K k w') w1 (Zah Tryz.func231 (by kernel_rfl) rfl) hc (fun k w' h=>hJ _ w' h.1) ⟨hj1,hm1,d1,d2⟩
  (fun k d w' hx ⟨hj,hmk,q1,q2⟩=>by
   obtain ⟨ed,hed,hdd⟩:=hL d (Yad hx);have hpre:=ZjO es f L k;have hnx:=ZmQ (es:=es) (f:=f) hx;rw [Zbl hed] at hnx;have hpn:=ZjO es f L (k+1);rw [hnx] at hpn;have hget:∀ (j x:Nat),(vis es f (ifsK es f L k) ed.lk)[j]? = some x->(Zc2 es f L)[L.length+(ifsK es f L k).length+j]? = some x:=fun j x hj=>by
    unfold Zc2;rw [YaK (by omega)];refine Zjk hpn ?_;rw [YaK (by omega),show L.length+(ifsK es f L k).length+j - L.length - (ifsK es f L k).length=j from by omega];exact hj
   refine ZlZ F caps (w.heap.size+1) (w.heap.size+1+1) w.heap.size d _ _ w' q1 q2 ?_;refine (ZmR hT hn hlk F caps he lo (w.heap.size+1) (by omega) f d ed (ifsK es f L k) (fun j=>J (L.length+(ifsK es f L k).length+j)) (fun j=>K (L.length+(ifsK es f L k).length+j)) w' hed hdd
    (by obtain ⟨r,hr⟩:=hpre;rw [←hr] at hg1;exact (Ycb.1 hg1).1) (fun x hx=>hg2 x (hpre.subset hx)) (fun j w3 h3=>hJ _ w3 h3) (fun j w3 w4 h3 h4=>hJs _ w3 w4 h3 h4)
    (fun j x w3 hx3 hj3=>hF _ x w3 (hget j x hx3) hj3) hj hmk).mono fun e3 w4 q=>q.mono' (fun ⟨j,hj4,hk4⟩=>⟨_,(Yag.1 (hget j _ (Yaa hj4))).1,hk4⟩) (fun ⟨r1,r2,r3⟩=>?_)
   show J (L.length+(ifsK es f L (k+1)).length) w4/\Met w4 (w.heap.size+1) (ifsK es f L (k+1))/\_
   rw [hnx];refine ⟨?_,r2,?_,?_⟩
   ·rw [Yal,←Nat.add_assoc];exact r1
   ·exact r3.cell q1 (show ¬ (w.heap.size+1+1<lo\/w.heap.size+1+1=w.heap.size+1) by omega)
   ·exact r3.cell q2 (show ¬ (w.heap.size<lo\/w.heap.size=w.heap.size+1) by omega))
 refine l2.mono fun e2 w2 q=>q.mono (fun w3 ⟨_,_,h⟩=>h) (fun w3 h=>?_)
 have:=h.1;rw [Zo0] at this;rw [hlen];exact this
