/- laws -/
import Derived.Test.YtggcdinoflchjaaGreatDoorK73
set_option maxRecDepth 100000
set_option maxHeartbeats 16000000
namespace Go.Proofs.YtggcdinoflchjaaGreatDoor
open Go.RowKit
def reqE (er:Nat) (h:Bool) (e:Nat):Nat:=if er=0/\h=false then e else er
theorem ZdX (X er e:Nat) (h:Bool) (cs:Array Value) (w:World) (hx:Box w X cs 76) (hc:cs[13]? = some (.int .i64 (er:Nat))) :
  Calls Tryz.prog 40 #[.pointer (some ⟨X,0,none⟩),.bool h,.int .i64 (e:Nat)] w (fun en w'=>en=.returned (.tuple #[])/\Box w' X (cs.setIfInBounds 13 (.int .i64 (reqE er h e:Nat))) 76/\(w'=w\/w'=w.setCell ⟨X,13,none⟩ (.int .i64 (reqE er h e:Nat)))):=by
 have c13:w.cell? ⟨X,13,none⟩=some (.int .i64 (er:Nat)):=hx.cell 13 hc;have f13:w.frozen? ⟨X,13,none⟩=false:=hx.free 13;have hset:=hx.set 13 (.int .i64 (reqE er h e:Nat));have HSET:=Hd hset;have hsame:reqE er h e=er->cs.setIfInBounds 13 (.int .i64 (reqE er h e:Nat))=cs:=fun he=>by
  rw [he];refine Yci (fun j=>?_);rw [YaD];by_cases hj:13=j
  ·subst hj;obtain ⟨h3,h4⟩:=Ybu.1 hc;rw [YaC rfl,YaC h3,hc]
  ·rw [Yas hj]
 have HSAME:=Hd hsame;have HX:=Hd hx;clear hx hset hsame hc;by_cases h0:er=0
 ·subst h0;cases h
  ·have hr:reqE 0 false e=e:=rfl;rw [hr] at HSET ⊢;go_enter Tryz.func40,Tryz.ntmps40;go_wp2
   go_end0
   exact ⟨rfl,HSET.o,.inr rfl⟩
  ·have hr:reqE 0 true e=0:=rfl;have hs:=HSAME.o hr;have HS:=Hd hs;clear hs;rw [hr] at HS ⊢;go_enter Tryz.func40,Tryz.ntmps40;go_wp2
   go_end0
   exact ⟨rfl,by rw [HS.o];exact HX.o,.inl rfl⟩
 ·have hr:reqE er h e=er:=by unfold reqE;rw [Yas (fun q=>h0 q.1)]
  have HS:=Hd (HSAME.o hr);rw [hr] at HS ⊢;have hn:¬ ((er:Int)=0):=by omega
  clear h0;go_enter Tryz.func40,Tryz.ntmps40;go_wp2
  go_end0
  exact ⟨rfl,by rw [HS.o];exact HX.o,.inl rfl⟩
theorem ZiU (X er e:Nat) (cs:Array Value) (w:World) (hx:Box w X cs 76) (hc:cs[13]? = some (.int .i64 (er:Nat))) :
  Calls Tryz.prog 40 #[.pointer (some ⟨X,0,none⟩),.bool true,.int .i64 (e:Nat)] w (fun en w'=>en=.returned (.tuple #[])/\w'=w):=
 (ZdX X er e true cs w hx hc).mono (fun en w' ⟨h1,_,h3⟩=>by
  refine ⟨h1,?_⟩;rcases h3 with h3|h3
  ·exact h3
  ·rw [h3,show reqE er true e=er from by unfold reqE;rw [Yas (fun q=>by cases q.2)]];exact ZcX (hx.cell 13 hc))
def SubG (X:Nat) (o:List UInt8) (w:World) (e:Ending) (w':World):Prop:=∃ c1 c2,e=.returned (.func (.func 195) #[] #[.pointer (some ⟨c1,0,none⟩),.pointer (some ⟨c2,0,none⟩)])/\Box w' c1 #[.pointer (some ⟨X,0,none⟩)] 74/\Box w' c2 #[.string (S o)] 9/\w.heap.size<=c1/\w.heap.size<=c2/\Below w.heap.size w w'
theorem Zo8 (X:Nat) (o:List UInt8) (w:World):Calls Tryz.prog 135 #[.pointer (some ⟨X,0,none⟩),.string (S o)] w (SubG X o w):=by
 have hmf:∀ (fn:Fn) (first cap:Array Value) (w:World),(Instr.makeFunc fn first cap).run Tryz.prog w=.ok (.func fn first cap) w:=fun _ _ _ _=>rfl
 unfold SubG;go_enter Tryz.func135,Tryz.ntmps135;go_wp2;go_ret;refine ⟨w.heap.size,w.heap.size+1,rfl,?_,?_,Yac _,Nat.le_succ _,Zaa (Zaa (Yab _ _) _) _⟩
 ·unfold Box;exact Zaq _ (heap_alloc_new _ _)
 ·unfold Box;exact Zaf _ _ _ (by simp)
theorem ZnK {A:Nat->Prop} {B:Nat->Nat} {T mb:Nat} {es:List Ent} {w0:World} (hT:Tab A w0 T mb B es) (hS:Shape es) (X c1 c2:Nat) (o s:List UInt8) (w:World) (hw:Below w0.heap.size w0 w) (ho:o.length<=9223372036854775807) (hs:s.length<=9223372036854775807)
  (h1:w.cell? ⟨c1,0,none⟩=some (.pointer (some ⟨X,0,none⟩))) (h2:w.cell? ⟨c2,0,none⟩=some (.string (S o))) (h0:w.cell? ⟨X,0,none⟩=some (.pointer (some ⟨T,0,none⟩))) :
  Calls Tryz.prog 195 #[.string (S s),.pointer (some ⟨c1,0,none⟩),.pointer (some ⟨c2,0,none⟩)] w (Said (subE es s o) w):=by
 have HC:Hid (∀ W,Below w.heap.size w W->Calls Tryz.prog 123 #[.pointer (some ⟨T,0,none⟩),.string (S s),.string (S o)] W (Said (subE es s o) W)):=Hd (fun W hW=>ZgQ hT hS s o W (hw.trans (hW.mono hw.size)) hs ho);have HS:Hid (∀ W,Below w.heap.size w W->W.cell? ⟨c1,0,none⟩=some (.pointer (some ⟨X,0,none⟩))/\W.cell? ⟨c2,0,none⟩=some (.string (S o))/\W.cell? ⟨X,0,none⟩=some (.pointer (some ⟨T,0,none⟩))):=Hd (fun W hW=>by
  have ho:=Yad (S:=fun _=>False) hW;exact ⟨ho.cell h1 id,ho.cell h2 id,ho.cell h0 id⟩)
 clear hT hS hw;go_enter Tryz.func195,Tryz.ntmps195
 go_upto_region 1 with fail
 first
 | (go_region_held (fun W=>W.cell? ⟨c1,0,none⟩=some (.pointer (some ⟨X,0,none⟩))/\W.cell? ⟨c2,0,none⟩=some (.string (S o))/\W.cell? ⟨X,0,none⟩=some (.pointer (some ⟨T,0,none⟩))) ((refine HS.o _ ?_;(repeat (first|(with_reducible exact Yab _ _)|(with_reducible assumption)|(with_reducible (apply Zac;rotate_left;assumption))|(with_reducible refine Zab ?_)))))
   ((go_at_call 123;(with_reducible refine (HC.o _ ?_).mono ?_);(focus ((repeat (first|(with_reducible exact Yab _ _)|(with_reducible assumption)|(with_reducible (apply Zac;rotate_left;assumption))|(with_reducible refine Zab ?_)));done));rintro e w1 ⟨rfl,b1⟩)))
 | fail
 all_goals
  have hbE:Below w.heap.size w w1:=by (repeat (first|(with_reducible exact Yab _ _)|(with_reducible assumption)|(with_reducible (apply Zac;rotate_left;assumption))|(with_reducible refine Zab ?_)))
  have HBE:=Hd hbE;clear hbE b1 h0 h1 h2;go_wp2;go_ret;exact ⟨rfl,HBE.o⟩
def FS (X n:Nat) (W:World):Prop:=∃ (cs:Array Value) (t:TypeId),cs.size=n/\Box W X cs t
theorem ZqR {X n:Nat} {W W':World} (hb:Below W.heap.size W W') (h:FS X n W):FS X n W':=let ⟨cs,t,h1,h2⟩:=h;⟨cs,t,h1,h2.below hb⟩
theorem ZqC {X n:Nat} {W:World} (j:Nat) (u:Value) (h:FS X n W):FS X n (W.setCell ⟨X,j,none⟩ u):=let ⟨cs,t,h1,h2⟩:=h;⟨cs.setIfInBounds j u,t,by simp [h1],h2.set j u⟩
theorem FS.at_ {X n:Nat} {W:World} (h:FS X n W) (j:Nat) (hj:j<n):W.cell? ⟨X,j,none⟩=some (atC W X j):=let ⟨_,_,h1,h2⟩:=h;Zpn h2 (by rw [h1];exact hj)
theorem FS.free {X n:Nat} {W:World} (h:FS X n W) (j:Nat):W.frozen? ⟨X,j,none⟩=false:=let ⟨_,_,_,h2⟩:=h;h2.free j
theorem ZpD {X j:Nat} {W:World} {cs:Array Value} {t:TypeId} {v:Value} (h:Box W X cs t) (hj:cs[j]? = some v):atC W X j=v:=by
 unfold atC;rw [h.cell j hj];rfl
structure FX (X lo:Nat) (cs:Array Value) (v:Value) (l:List (List UInt8)) (S:Nat->Prop) (w W:World):Prop where
 box:Box W X cs 76
 row:KR lo W v l
 at_:cs[11]? = some v
 only:Only S w W
theorem Zmd {X lo:Nat} {cs:Array Value} {v:Value} {l:List (List UInt8)} {S:Nat->Prop} {w W:World} (h:FX X lo cs v l S w W):FX X lo cs v l S w W.drew:=⟨h.box,h.row,h.at_,h.only.drew⟩
theorem Zgp {X lo:Nat} {cs:Array Value} {v:Value} {l:List (List UInt8)} {S:Nat->Prop} {w W W':World} (hb:Below W.heap.size W W') (h:FX X lo cs v l S w W):FX X lo cs v l S w W':=⟨h.box.below hb,h.row.below hb,h.at_,h.only.then (Yad (S:=fun _=>False) hb) (fun _ _=>False.elim)⟩
theorem Zjj {X lo:Nat} {cs:Array Value} {v:Value} {l:List (List UInt8)} {S:Nat->Prop} {w W:World} (o:Obj) (h:FX X lo cs v l S w W):FX X lo cs v l S w (W.alloc o):=Zgp (Zaa (Yab _ _) o) h
theorem FX.fs {X lo:Nat} {cs:Array Value} {v:Value} {l:List (List UInt8)} {S:Nat->Prop} {w W:World} (h:FX X lo cs v l S w W) (hn:cs.size=14):FS X 14 W:=⟨cs,_,hn,h.box⟩
theorem Znz {cs:Array Value} {j:Nat} {u v:Value} (h:cs[j]? = some u):(cs.setIfInBounds j v)[j]? = some v:=by
 have hj:j<cs.size:=(Ybu.1 h).1;rw [YaD,YaC rfl,YaC hj]
theorem ZnA (cs:Array Value) (j:Nat) (u v:Value):(cs.setIfInBounds j u).setIfInBounds j v=cs.setIfInBounds j v:=by simp
theorem Znp (X lo:Nat) (cs:Array Value) (sv kv:Value) (stk l:List (List UInt8)) (w:World) (A:Nat->Prop) (hx:Box w X cs 76) (hcs:cs.size=14) (hc:cs[11]? = some sv) (hk:KR lo w sv stk) (hlo:lo<=w.heap.size) (hXlo:sv.ownBlock ≠ some X) (hs:Src 1 StrR A w kv l) (hA:∀ i,A i->i ≠ X/\sv.ownBlock ≠ some i) (hl:stk.length+l.length<=1048576) (hf:∀ x ∈ l,x.length<=281474976710656) :
  Calls Tryz.prog 130 #[.pointer (some ⟨X,0,none⟩),kv] w (fun e w'=>e=.returned (.tuple #[])/\∃ v',Box w' X (cs.setIfInBounds 11 v') 76/\KR lo w' v' (stk++l)/\v'.ownBlock ≠ some X/\Only (fun i=>i=X\/sv.ownBlock=some i) w w'/\(v'.ownBlock=sv.ownBlock\/∀ g,v'.ownBlock=some g->w.heap.size<=g)):=by
 have HL:=Hd hl;have HCL:Hid (∀ x W,x ∈ l->Calls Tryz.prog 63 #[.string (S x)] W fun e w'=>e=.returned (.string (S x))/\Below W.heap.size W w'):=Hd (fun x W hx=>ZaF (S x) W (by rw [Zay];exact hf x hx));have HSS:Hid (∀ W,Only (fun i=>i=X\/sv.ownBlock=some i) w W->Src 1 StrR A W kv l):=Hd (fun W hW=>StrR.st.src hs hW (fun k hk e=>by have h:=hA k hk;rcases e with e|e;exact h.1 e;exact h.2 e));obtain ⟨ko,kc,rfl⟩:=hs.shape;obtain ⟨n,hn⟩:∃ n,n=l.length:=⟨_,rfl⟩
 have HN:=Hd hn;have hn1:n<=1048576:=by omega
 have HX:=Hd hx;have HC:=Hd hc;have HCS:=Hd hcs;have HK:=Hd hk;have HXL:=Hd hXlo;have HLO:=Hd hlo;rw [←hn] at HSS ⊢;clear hs hx hc hk hXlo hA hf hn hl hlo hcs;go_enter Tryz.func130,Tryz.ntmps130
 go_wp2_with fail
 go_loopw [8] (fun v8 wr=>∃ (k:Nat) (v:Value),k<=n/\v8=.int .i64 k/\Box wr X (cs.setIfInBounds 11 v) 76/\KR lo wr v (stk++l.take k)/\v.ownBlock ≠ some X/\(v.ownBlock=sv.ownBlock\/∀ g,v.ownBlock=some g->w.heap.size<=g)/\Only (fun i=>i=X\/sv.ownBlock=some i) w wr) (fun v8 _=>n - (intOf v8).toNat)
 case atStart=>
  refine ⟨0,sv,Yai _,rfl,?_,by rw [YbM,Ya2];exact HK.o,HXL.o,.inl rfl,Yan _ _⟩;have h:=HX.o.set 11 sv;rw [ZcX (HX.o.cell 11 HC.o)] at h;exact h
 case round=>
  obtain ⟨k,v,hk,rfl,hbx,hkr,hne,hcm,hon⟩:=hrel;have HKR:=Hd hkr;have HNE:=Hd hne;have HCM:=Hd hcm;have HON:=Hd hon;have HBX:=Hd hbx;clear hkr hne hcm hon hbx;by_cases hlt:k<n
  ·obtain ⟨x,hx⟩:∃ x,l[k]? = some x:=⟨_,Yaa (by rw [←HN.o];exact hlt)⟩
   obtain ⟨b,o,u,rfl,hu,_,hcl⟩:=Src.elem (HSS.o wr HON.o) k x hx;obtain rfl:=hu;have d0:wr.cell? ⟨b,o+k,none⟩=some (.string (S x)):=by have q:=hcl 0 _ rfl;rw [YaG] at q;exact q
   have HCX:=Hd (fun W=>HCL.o x W (Yaf hx));have HTK:Hid (stk++l.take (k+1)=(stk++l.take k)++[x]):=Hd (by rw [YaL,hx,YaW];rfl);have hk0:(0:Int)<=(k:Int):=by omega
   have hkn:(k:Int)<(n:Int):=by omega
   have fx0:FX X lo (cs.setIfInBounds 11 v) v (stk++l.take k) (fun i=>i=X\/sv.ownBlock=some i) w wr:=⟨HBX.o,HKR.o,Znz HC.o,HON.o⟩;have HFS:Hid (∀ W,FX X lo (cs.setIfInBounds 11 v) v (stk++l.take k) (fun i=>i=X\/sv.ownBlock=some i) w W->FS X 14 W):=Hd (fun W h=>h.fs (by simp [HCS.o]));have HAT:Hid (∀ W,FX X lo (cs.setIfInBounds 11 v) v (stk++l.take k) (fun i=>i=X\/sv.ownBlock=some i) w W->atC W X 11=v):=Hd (fun W h=>ZpD h.box h.at_);have HAP:Hid (∀ W ty,FX X lo (cs.setIfInBounds 11 v) v (stk++l.take k) (fun i=>i=X\/sv.ownBlock=some i) w W->∃ v' w',(Builtin.append_ #[22,22] ty #[v,.slice (some ⟨W.heap.size,0,none⟩) 1 1]).run Tryz.prog (W.alloc (.cells #[.string (S x)] 9))=.ok v' w'/\
      ((∃ ao c,v'=.slice ao (stk.length+k+1) c)/\FS X 14 w'/\Box w' X (cs.setIfInBounds 11 v) 76/\KR lo w' v' ((stk++l.take k)++[x])/\v'.ownBlock ≠ some X/\(v'.ownBlock=sv.ownBlock\/∀ g,v'.ownBlock=some g->w.heap.size<=g)/\Only (fun i=>i=X\/sv.ownBlock=some i) w w'/\w'.cell? ⟨X,11,none⟩=some v/\w'.frozen? ⟨X,11,none⟩=false)):=Hd (fun W ty h2=>by
    have hlen:(stk++l.take k).length=stk.length+k:=by rw [Yak,Yay,←HN.o,Ybe hk]
    have hls:=HL.o;rw [←HN.o] at hls;obtain ⟨v',w',hr,hk',hg⟩:=Zf5 (B:=W.heap.size) x h2.row (Yaq HLO.o h2.only.size) (by omega) rfl ty;have hnx:v'.ownBlock ≠ some X:=fun e=>by
     rcases hg.came with q|q
     ·exact HNE.o (q ▸ e)
     ·have h3:=q X e;have h4:=h2.box.lt;omega
    have hbx':=h2.box.keep hg.only (fun e=>HNE.o e);have hon':Only (fun i=>i=X\/sv.ownBlock=some i) w w':=h2.only.then hg.only (fun i hi e=>by
     rcases HCM.o with q|q
     ·exact .inr (q ▸ e)
     ·have:=q i e;omega)
    refine ⟨v',w',hr,?_,⟨_,_,by simp [HCS.o],hbx'⟩,hbx',hk',hnx,?_,hon',hbx'.cell 11 h2.at_,hbx'.free 11⟩
    ·obtain ⟨ao,c,e⟩:=hk'.shape;rw [Yak,hlen] at e;exact ⟨ao,c,e⟩
    ·rcases hg.came with q|q
     ·rcases HCM.o with r|r
      ·exact .inl (q.trans r)
      ·exact .inr (fun g e=>r g (q ▸ e))
     ·exact .inr (fun g e=>Yaq h2.only.size (q g e)))
   have HGX:Hid (∀ W,FX X lo (cs.setIfInBounds 11 v) v (stk++l.take k) (fun i=>i=X\/sv.ownBlock=some i) w W->W.cell? ⟨X,11,none⟩=some v/\W.frozen? ⟨X,11,none⟩=false):=Hd (fun W h=>⟨h.box.cell 11 h.at_,h.box.free 11⟩);have HCX2:Hid (∀ W,FX X lo (cs.setIfInBounds 11 v) v (stk++l.take k) (fun i=>i=X\/sv.ownBlock=some i) w W->Calls Tryz.prog 63 #[.string (S x)] W (fun e w'=>∃ u,e=.returned u/\(u=.string (S x)/\FX X lo (cs.setIfInBounds 11 v) v (stk++l.take k) (fun i=>i=X\/sv.ownBlock=some i) w w'))):=Hd (fun W hW=>(HCX.o W).mono (fun e w' ⟨h1,h2⟩=>⟨_,h1,rfl,Zgp h2 hW⟩));have HE:Hid (∀ args w,(callFunc 63 args).run Tryz.prog w=.ok (.enter 63 args) w):=Hd (Zai Tryz.func63 (by kernel_rfl) rfl);have fx00:=Zmd fx0;obtain ⟨g1,g2⟩:=HGX.o _ fx00;clear hcl hx;obtain ⟨vo,vc,hvs⟩:=HKR.o.shape;rw [show (stk++l.take k).length=stk.length+k by rw [Yak,Yay,←HN.o,Ybe hk]] at hvs;rw [hvs] at g1
   go_upto_region 3 with fail
   (go_region_law (first
     | (refine ZnJ (by rfl) 63 #[.tmp 17] #[9] (by rfl) #[.string (S x)] (by rfl) (HE.o _ _) (HCX2.o _ ?_) ?_;(focus ((repeat (first|(with_reducible assumption)|(with_reducible refine Zmd ?_)|(with_reducible (apply Zgp;assumption))|(with_reducible refine Zjj _ ?_)));done));rintro u1 wx1 ⟨rfl,fx1⟩;obtain ⟨g3,g4⟩:=HGX.o _ fx1;obtain ⟨g5,g6⟩:=HGX.o _ (Zjj (.cells #[.string (S x)] 9) fx1);rw [hvs] at g3 g5)
     | (obtain ⟨v2,w2,hr2,⟨ao2,ac2,rfl⟩,fs2,bx2,kr2,ne2,cm2,on2,g7,g8⟩:=HAP.o wx1 22 fx1;rw [hvs] at hr2 g7;refine ZaY (by rfl) _ _ 22 (by rfl) _ _ _ w2 (by rfl) (by rfl) hr2 ?_)))
   all_goals
    have HB2:Hid (Box (w2.setCell ⟨X,11,none⟩ (.slice ao2 (stk.length+k+1) ac2)) X (cs.setIfInBounds 11 (.slice ao2 (stk.length+k+1) ac2)) 76):=Hd (by have h:=bx2.set 11 (.slice ao2 (stk.length+k+1) ac2);rw [ZnA] at h;exact h);have HO2:Hid (Only (fun i=>i=X\/sv.ownBlock=some i) w (w2.setCell ⟨X,11,none⟩ (.slice ao2 (stk.length+k+1) ac2))):=Hd (on2.setCell (p:=⟨X,11,none⟩) (Or.inl rfl) _);have HK2:Hid (KR lo (w2.setCell ⟨X,11,none⟩ (.slice ao2 (stk.length+k+1) ac2)) (.slice ao2 (stk.length+k+1) ac2) (stk++l.take (k+1))):=Hd (by
     rw [HTK.o];exact kr2.keep ((Yan (fun i=>i=X) w2).setCell (p:=⟨X,11,none⟩) rfl _) (fun g hg e=>ne2 (by rw [hg];exact Ya5 some e)))
    have HN2:=Hd ne2;have HC2:=Hd cm2;clear hr2 fs2 bx2 kr2 ne2 cm2 on2 g1 g2 g3 g4 g5 g6 g7 g8 fx1 fx0 fx00 d0;go_wp2
    go_roundw
    case rel=>exact ⟨k+1,_,by omega,by go_num,HB2.o,HK2.o,HN2.o,HC2.o,HO2.o⟩
    case measure=>simp [intOf];omega
  ·obtain rfl:n=k:=by omega
   have hTL:l.take n=l:=by rw [HN.o,YaJ]
   rw [hTL] at HKR;go_wp2
   go_end0
   exact ⟨rfl,v,HBX.o,HKR.o,HNE.o,HON.o,HCM.o⟩
structure Zqq where
 F:Nat
 first:Array Value
 caps:Array Value
def errT (bs:Nat->Bool):Nat->Nat
 | 0=>0
 | k+1=>reqE (errT bs k) (bs k) 73
theorem Zo9 (X lo tb mc:Nat) (cs:Array Value) (sv:Value) (stk:List (List UInt8)) (ts:List Zqq) (bs:Nat->Bool) (I:Nat->World->Prop) (E:Nat->Prop) (w:World) (hx:Box w X cs 76) (hcs:cs.size=14) (h11:cs[11]? = some sv) (h13:cs[13]? = some (.int .i64 0))
  (hk:KR lo w sv stk) (hne:sv.ownBlock ≠ some X) (hm1:1<=ts.length) (hm:ts.length<=stk.length) (hs:stk.length<=1048576) (htb:∀ i t,ts[i]? = some t->w.cell? ⟨tb,i,none⟩=some (.func (.func t.F) t.first t.caps)) (htX:tb ≠ X)
  (he:∀ t ∈ ts,∀ args w,(callFunc t.F args).run Tryz.prog w=.ok (.enter t.F args) w) (hI0:I 0 w) (hIb:∀ i W W',I i W->Below W.heap.size W W'->I i W') (hIs:∀ i W v,I i W->I i (W.setCell ⟨X,13,none⟩ v)/\I i (W.setCell ⟨X,11,none⟩ v))
  (hcall:∀ i t s,ts[i]? = some t->stk[stk.length - ts.length+i]? = some s->∀ W,I i W->Calls Tryz.prog t.F (t.first.push (.string (S s))++t.caps) W (fun e W'=>e=.returned (.bool (bs i))/\I (i+1) W'/\Only E W W'))
  (hE:∀ k,E k->k ≠ X/\k ≠ tb/\sv.ownBlock ≠ some k/\k<w.heap.size) :
  Calls Tryz.prog 132 #[.pointer (some ⟨X,0,none⟩),.slice (some ⟨tb,0,none⟩) ts.length mc] w (fun e w'=>∃ tv cv,e=.returned tv/\Src 1 StrR (fun k=>w.heap.size<=k) w' tv (stk.drop (stk.length - ts.length))/\Box w' X ((cs.setIfInBounds 11 cv).setIfInBounds 13 (.int .i64 (errT bs ts.length:Nat))) 76/\
   KR lo w' cv (stk.take (stk.length - ts.length))/\cv.ownBlock=sv.ownBlock/\I ts.length w'/\Only (fun i=>i=X\/E i) w w'/\∃ c,tv=.slice (some ⟨w.heap.size,0,none⟩) ts.length c/\∀ j,w'.frozen? ⟨w.heap.size,j,none⟩=false):=by
 have hmf:∀ (fn:Fn) (first cap:Array Value) (w:World),(Instr.makeFunc fn first cap).run Tryz.prog w=.ok (.func fn first cap) w:=fun _ _ _ _=>rfl
 obtain ⟨g,sc,rfl,hnc,hcm⟩:=hk.there (by omega);obtain ⟨n,hn⟩:∃ n,n=stk.length:=⟨_,rfl⟩
 obtain ⟨m,hmm⟩:∃ m,m=ts.length:=⟨_,rfl⟩
 rw [←hn] at hm hs hnc;rw [←hmm] at hm hm1;obtain ⟨j0,hji,hz0,hz1,hz2⟩:=info_parts ZcD;obtain ⟨w1,hmk,hrow,hb1⟩:=Zcf (P:=Tryz.prog) 22 9 j0 (.string ⟨#[]⟩) Tryz.underlying22 hji hz0 hz1 rfl m (by rw [hz2];omega) (by unfold maxLen;omega) w;have hx1:=hx.below hb1;have c11:w1.cell? ⟨X,11,none⟩=some (.slice (some ⟨g,0,none⟩) n sc):=by rw [hn];exact hx1.cell 11 h11
 have c13:w1.cell? ⟨X,13,none⟩=some (.int .i64 0):=hx1.cell 13 h13;rw [←hn,←hmm];have HM:=Hd hmm;have HN:=Hd hn;obtain ⟨q,hq⟩:∃ q:Nat,n=q+m:=⟨n - m,by omega⟩
 have hnm:(n:Int) - (m:Int)=(q:Int):=by omega
 have hcq:¬ sc=q:=by omega
 have hnc2:(n:Int)<=(sc:Int):=by omega
 have HR:Hid (Calls Tryz.prog 40 #[.pointer (some ⟨X,0,none⟩),.bool true,.int .i64 72] w1 (fun en w'=>en=.returned (.tuple #[])/\w'=w1)):=Hd (ZiU X 0 72 cs w1 hx1 h13);have hdl:(stk.drop q).length=m:=by rw [Ybn];omega
 have hkw1:=hk.below hb1;obtain ⟨w3,hcp,hrow3,ho3⟩:=ZlS hrow g q (sc - q) (stk.drop q) hdl (fun k x hx=>by
  rw [YbH] at hx;have hc:=World.ownsRow.cells (g:=g) hkw1 rfl (q+k) (strV x) (by rw [Yau,hx];rfl);rw [Ybo,Ybc] at hc;exact hc) 3
 have HCALL:Hid (∀ i t s,ts[i]? = some t->stk[q+i]? = some s->∀ W,I i W->Calls Tryz.prog t.F (t.first.push (.string (S s))++t.caps) W (fun e W'=>e=.returned (.bool (bs i))/\I (i+1) W'/\Only E W W')):=Hd (fun i t s h1 h2=>hcall i t s h1 (by rw [←hn,←hmm,show n - m+i=q+i by omega];exact h2));have HHE:=Hd he;have HIB:=Hd hIb;have HIS:=Hd hIs;have HEE:=Hd hE;have HCS:=Hd hcs;have H13:=Hd h13;have H11:=Hd h11;have HTB:=Hd htb;have hgX:g ≠ X:=fun e=>hne (by rw [e];rfl)
 have hgl:=hk.own g rfl;have hXl:=hx.lt;have hx3:=hx1.keep ho3 (fun e=>by omega);have hb3:Below w.heap.size w w3:=hb1.trans (ho3.below hb1.size (fun i hi=>by omega));have hk3:KR lo w3 (.slice (some ⟨g,0,none⟩) n sc) stk:=by
  have h:=hk.below hb3;rw [←hn] at h;exact h
 have d11:w3.cell? ⟨X,11,none⟩=some (.slice (some ⟨g,0,none⟩) n sc):=by rw [hn];exact hx3.cell 11 h11
 have f11:w3.frozen? ⟨X,11,none⟩=false:=hx3.free 11;clear hmm hn;subst hq;go_enter Tryz.func132,Tryz.ntmps132
 go_wp2_with fail
 with_reducible refine HR.o.mono ?_
 rintro e w2 ⟨rfl,rfl⟩
 go_wp2_with fail
 have hg0:g ≠ w.heap.size:=by omega
 have hoX:Only (fun i=>i=X) w3 (w3.setCell ⟨X,11,none⟩ (.slice (some ⟨g,0,none⟩) q sc)):=(Yan (fun i=>i=X) w3).setCell (p:=⟨X,11,none⟩) rfl _;have hx4:=hx3.set 11 (.slice (some ⟨g,0,none⟩) q sc);have hk4:KR lo (w3.setCell ⟨X,11,none⟩ (.slice (some ⟨g,0,none⟩) q sc)) (.slice (some ⟨g,0,none⟩) q sc) (stk.take q):=(hk3.take q (by rw [←HN.o];omega)).keep hoX (fun i hi e=>hgX (by rw [←e];exact (Yae hi)));have hi4:I 0 (w3.setCell ⟨X,11,none⟩ (.slice (some ⟨g,0,none⟩) q sc)):=(hIs 0 w3 _ (hIb 0 w w3 hI0 hb3)).2;have hr4:=hrow3.keep hoX (fun e=>by omega);have ho4:Only (fun i=>i=X\/E i) w (w3.setCell ⟨X,11,none⟩ (.slice (some ⟨g,0,none⟩) q sc)):=(Yad (S:=fun i=>i=X\/E i) hb3).then hoX (fun i _ e=>.inl e);generalize hW4:w3.setCell ⟨X,11,none⟩ (.slice (some ⟨g,0,none⟩) q sc)=w4 at hx4 hk4 hi4 hr4 ho4 ⊢;have HX4:=Hd hx4;have HK4:=Hd hk4;have HI4:=Hd hi4;have HR4:=Hd hr4;have HO4:=Hd ho4;have HGX:=Hd hgX;have HTX:=Hd htX;have HXL:=Hd hXl;have HGL:=Hd hgl;have hs4:=ho4.size;clear hW4 hx4 hk4 hi4 hr4 ho4 hcp hmk d11 f11 c11 c13 hx3 hx1 hk3 hb3 ho3 hrow3 hrow hb1 hoX hkw1 hgX hgl hXl hx hk hIb hIs hI0 hcall he hE hcs h13 h11 htb htX hne HR
 go_loopw [49] (fun v49 wr=>∃ k:Nat,k<=m/\v49=.int .i64 k/\Box wr X ((cs.setIfInBounds 11 (.slice (some ⟨g,0,none⟩) q sc)).setIfInBounds 13 (.int .i64 (errT bs k:Nat))) 76/\I k wr/\Only (fun i=>i=X\/E i) w4 wr) (fun v49 _=>m - (intOf v49).toNat)
 case atStart=>
  refine ⟨0,Yai _,rfl,?_,HI4.o,Yan _ _⟩;have h:=HX4.o.set 13 (.int .i64 0);rw [ZcX (HX4.o.cell 13 (by rw [YaD,Yas (by decide)];exact H13.o))] at h;exact h
 case round=>
  obtain ⟨k,hk,rfl,hbx,hik,hon⟩:=hrel;have HBX:=Hd hbx;have HIK:=Hd hik;have HON:=Hd hon;have HOW:Hid (Only (fun i=>i=X\/E i) w wr):=Hd (HO4.o.trans hon);have hnE:¬ ((w.heap.size=X)\/E w.heap.size):=fun e=>by
   rcases e with e|e
   ·have:=HXL.o;omega
   ·have:=(HEE.o _ e).2.2.2;omega
  have HRW:=Hd (HR4.o.keep hon hnE);clear hbx hik hon;by_cases hlt:k<m
  ·obtain ⟨t,ht⟩:∃ t,ts[k]? = some t:=⟨_,Yaa (by rw [←HM.o];exact hlt)⟩
   obtain ⟨x,hx⟩:∃ x,stk[q+k]? = some x:=⟨_,Yaa (by rw [←HN.o];omega)⟩
   have c1:wr.cell? ⟨tb,k,none⟩=some (.func (.func t.F) t.first t.caps):=HOW.o.cell (a:=⟨tb,k,none⟩) (HTB.o k t ht) (fun e=>by
    rcases e with e|e
    ·exact HTX.o e
    ·exact (HEE.o tb e).2.1 rfl)
   have c2:wr.cell? ⟨w.heap.size,k,none⟩=some (.string (S x)):=by
    rw [HRW.o.at_ k hlt,Yau,YbH,hx];rfl
   have HCX:=Hd (HCALL.o k t x ht hx wr HIK.o);have het:=HHE.o t (Yaf ht);have hk0:(0:Int)<=(k:Int):=by omega
   have hkm:(k:Int)<(m:Int):=by omega
   clear ht hx;obtain ⟨tF,tf,tc⟩:=t;simp only at c1 HCX het
   go_wp2_with fail
   with_reducible refine HCX.o.mono ?_
   rintro e w5 ⟨rfl,hi5,ho5⟩;have hb5:=HBX.o.keep ho5 (fun e=>(HEE.o X e).1 rfl);have HB5:=Hd hb5;have HRQ:Hid (Calls Tryz.prog 40 #[.pointer (some ⟨X,0,none⟩),.bool (bs k),.int .i64 73] w5 (fun en w'=>en=.returned (.tuple #[])/\Box w' X (((cs.setIfInBounds 11 (.slice (some ⟨g,0,none⟩) q sc)).setIfInBounds 13 (.int .i64 (errT bs k:Nat))).setIfInBounds 13 (.int .i64 (errT bs (k+1):Nat))) 76/\(w'=w5\/w'=w5.setCell ⟨X,13,none⟩ (.int .i64 (errT bs (k+1):Nat))))):=
    Hd (ZdX X (errT bs k) 73 (bs k) _ w5 hb5 (by rw [YaD,YaC rfl,YaC (by simp;rw [HCS.o];omega)]))
   have HI5:=Hd hi5;have HO5:=Hd ho5;clear hb5 hi5 ho5 c1 c2 het HCX
   go_wp2_with fail
   with_reducible refine HRQ.o.mono ?_
   rintro e w6 ⟨rfl,hb6,hw6⟩;have HB6:=Hd hb6;have HI6:Hid (I (k+1) w6):=Hd (by
    rcases hw6 with rfl|rfl
    ·exact HI5.o
    ·exact (HIS.o (k+1) w5 _ HI5.o).1)
   have HO6:Hid (Only (fun i=>i=X\/E i) w4 w6):=Hd (by
    have h1:Only (fun i=>i=X\/E i) w4 w5:=HON.o.then HO5.o (fun i _ e=>.inr e);rcases hw6 with rfl|rfl
    ·exact h1
    ·exact h1.setCell (p:=⟨X,13,none⟩) (Or.inl rfl) _)
   clear hb6 hw6 HRQ;go_wp2
   go_roundw
   case rel=>exact ⟨k+1,by omega,by go_num,by have h:=HB6.o;rw [ZnA] at h;exact h,HI6.o,HO6.o⟩
   case measure=>simp [intOf];omega
  ·obtain rfl:m=k:=by omega
   have HKE:Hid (KR lo wr (.slice (some ⟨g,0,none⟩) q sc) (stk.take q)):=Hd (HK4.o.keep HON.o (fun i hi e=>by
    obtain rfl:g=i:=Yae hi;rcases e with e|e
    ·exact HGX.o e
    ·exact (HEE.o g e).2.2.1 rfl))
   have HSE:Hid (Src 1 StrR (fun k=>w.heap.size<=k) wr (.slice (some ⟨w.heap.size,0,none⟩) m m) (stk.drop q)):=Hd (.inr ⟨w.heap.size,0,m,by rw [hdl],⟨Yac _,HRW.o.lt,by rw [hdl];exact Yac _,by omega⟩,fun j x hj=>⟨strV x,rfl,rfl,fun p u hp=>by
    have hp0:p=0:=by have:p<(strV x).cells.size:=(Ybu.1 hp).1;simp [Value.cells] at this;exact this
    subst hp0;have hu:u=strV x:=by simpa [Value.cells] using hp.symm
    subst hu;have hjm:j<m:=by rw [←hdl];exact (Yag.1 hj).1
    rw [Ybc,YaG];show wr.cell? ⟨w.heap.size,j,none⟩=_
    rw [HRW.o.at_ j hjm,Yau,hj];rfl⟩⟩)
   go_wp2;go_ret;refine ⟨_,.slice (some ⟨g,0,none⟩) q sc,rfl,?_,HBX.o,?_,rfl,HIK.o,HOW.o,_,rfl,fun j=>HRW.o.free j⟩
   ·rw [Nat.add_sub_cancel];exact HSE.o
   ·rw [Nat.add_sub_cancel];exact HKE.o
