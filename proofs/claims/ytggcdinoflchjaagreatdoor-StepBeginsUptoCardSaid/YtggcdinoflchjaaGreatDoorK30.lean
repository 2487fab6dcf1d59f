/- laws -/
import Derived.Test.YtggcdinoflchjaaGreatDoorK29
set_option maxRecDepth 100000
set_option maxHeartbeats 16000000
namespace Go.Proofs.YtggcdinoflchjaaGreatDoor
open Go.RowKit
def msE (es:List Ent) (L:List Nat):List Mth:=L.flatMap (Zar es)
def knOf (es:List Ent) (x:Nat) (ms:List Mth) (n:List UInt8):Option Mth:=(ms.find? fun m=>m.name == n).map (inhE es x)
def clash (es:List Ent) (x:Nat) (ms:List Mth) (m:Mth):Bool:=match knOf es x ms m.name with|some k=>ZaJ m != ZaJ k|none=>false
def ZaL (es:List Ent) (x:Nat):Bool:=(msE es (Zau es x)).any (clash es x (msE es (Zau es x)))
theorem Zgw {es:List Ent} {x:Nat} {a b:List Mth} {n:List UInt8} (h:∃ m ∈ a,m.name=n):knOf es x (a++b) n=knOf es x a n:=by
 unfold knOf;rw [List.find?_append];obtain ⟨m,hm,hn⟩:=h;have h1:(a.find? fun m=>m.name == n).isSome=true:=List.find?_isSome.2 ⟨m,hm,by simp [hn]⟩;obtain ⟨k,hk⟩:=YaM.1 h1;rw [hk];rfl
def Kn (w0:World) (es:List Ent) (x:Nat) (km:Nat) (ms:List Mth) (w:World):Prop:=
 ∃ n f h,MapF Tryz.prog 9 (.agg #[.string ⟨#[]⟩,.slice none 0 0,.string ⟨#[]⟩,.bool false,.int .i64 0,.slice none 0 0,.slice none 0 0]) w km n f h/\n<=ms.length/\(∀ nm,h (.string nm)=true↔∃ m ∈ ms,m.name=nm)/\
  ∀ nm,h (.string nm)=true->∃ k,knOf es x ms nm=some k/\MthR (fun b=>b<w0.heap.size) w k (f (.string nm))
theorem Kn.keep {w0:World} {es:List Ent} {x km:Nat} {ms:List Mth} {w w':World} {S:Nat->Prop} (q:Kn w0 es x km ms w) (ho:Only S w w') (hk:¬ S km) (hA:∀ b,b<w0.heap.size->¬ S b):Kn w0 es x km ms w':=by
 obtain ⟨n,f,h,h1,h2,h3,h4⟩:=q;exact ⟨n,f,h,h1.keep ho hk,h2,h3,fun nm hn=>let ⟨k,a,b⟩:=h4 nm hn;⟨k,a,MthR.st.keep b ho hA⟩⟩
theorem Zen (w:World):(zeroValue 44).run Tryz.prog w=.ok (.agg #[.string ⟨#[]⟩,.slice none 0 0,.string ⟨#[]⟩,.bool false,.int .i64 0,.slice none 0 0,.slice none 0 0]) w:=by kernel_rfl
theorem Kn.look {w0:World} {es:List Ent} {x km:Nat} {ms:List Mth} {w:World} (q:Kn w0 es x km ms w) (nm:List UInt8) (hn:nm.length<=9223372036854775807) (hm:∃ m ∈ ms,m.name=nm) :
  ∃ k v,knOf es x ms nm=some k/\MthR (fun b=>b<w0.heap.size) w k v/\(Instr.lookup 161 (.map (some km)) (.string (S nm)) false).run Tryz.prog w=.ok v w/\(Instr.lookup 161 (.map (some km)) (.string (S nm)) true).run Tryz.prog w=.ok (.tuple #[v,.bool true]) w:=by
 obtain ⟨n,f,h,h1,h2,h3,h4⟩:=q;have ht:=(h3 nm).2 hm;obtain ⟨k,hk,hv⟩:=h4 nm ht;have l1:=h1.look Za3 Tryz.underlying161 (Zen w) (ZcE nm hn);have l2:=h1.look_ok Za3 Tryz.underlying161 (Zen w) (ZcE nm hn);rw [ht] at l2;exact ⟨k,_,hk,hv,l1,l2⟩
theorem Kn.look_no {w0:World} {es:List Ent} {x km:Nat} {ms:List Mth} {w:World} (q:Kn w0 es x km ms w) (nm:List UInt8) (hn:nm.length<=9223372036854775807) (hm:¬ ∃ m ∈ ms,m.name=nm) :
  (Instr.lookup 161 (.map (some km)) (.string (S nm)) true).run Tryz.prog w=.ok (.tuple #[.agg #[.string ⟨#[]⟩,.slice none 0 0,.string ⟨#[]⟩,.bool false,.int .i64 0,.slice none 0 0,.slice none 0 0],.bool false]) w:=by
 obtain ⟨n,f,h,h1,h2,h3,h4⟩:=q;have ht:h (.string nm)=false:=by
  cases hh:h (.string nm) with
  | false=>rfl
  | true=>exact absurd ((h3 nm).1 hh) hm
 have l2:=h1.look_ok Za3 Tryz.underlying161 (Zen w) (ZcE nm hn);have hf:f (.string nm)=.agg #[.string ⟨#[]⟩,.slice none 0 0,.string ⟨#[]⟩,.bool false,.int .i64 0,.slice none 0 0,.slice none 0 0]:=by
  obtain ⟨D,_,_,h5,h6⟩:=h1;have h7:=h5 (.string nm);rw [Maps.atKey_of_not_has (by rw [h6,ht])] at h7;exact (DataW.held.inj h7).symm
 rw [ht,hf] at l2;exact l2
theorem Kn.more {w0:World} {es:List Ent} {x km:Nat} {ms:List Mth} {w:World} (q:Kn w0 es x km ms w) {m:Mth} (hm:∃ k ∈ ms,k.name=m.name):Kn w0 es x km (ms++[m]) w:=by
 obtain ⟨n,f,h,h1,h2,h3,h4⟩:=q;refine ⟨n,f,h,h1,by rw [Yak];omega,fun nm=>?_,fun nm hn=>?_⟩
 ·rw [h3];constructor
  ·rintro ⟨k,hk,e⟩;exact ⟨k,Ya7 _ hk,e⟩
  ·rintro ⟨k,hk,e⟩;rcases Yao.1 hk with hk|hk
   ·exact ⟨k,hk,e⟩
   ·obtain rfl:=YaA.1 hk;obtain ⟨k2,h5,h6⟩:=hm;exact ⟨k2,h5,h6.trans e⟩
 ·obtain ⟨k,hk,hv⟩:=h4 nm hn;exact ⟨k,by rw [Zgw ((h3 nm).1 hn)];exact hk,hv⟩
theorem Kn.put {w0:World} {es:List Ent} {x km:Nat} {ms:List Mth} {w:World} (q:Kn w0 es x km ms w) {m:Mth} {v:Value} (hm:¬ ∃ k ∈ ms,k.name=m.name) (hn:m.name.length<=9223372036854775807) (hl:ms.length<9223372036854775807) (hkm:w0.heap.size<=km) (hv:MthR (fun b=>b<w0.heap.size) w (inhE es x m) v) :
  (Instr.mapUpdate 161 (.map (some km)) (.string (S m.name)) v).run Tryz.prog w=.ok () (putW Tryz.prog 161 (.map (some km)) (.string (S m.name)) v w)/\Kn w0 es x km (ms++[m]) (putW Tryz.prog 161 (.map (some km)) (.string (S m.name)) v w)/\
   Only (fun b=>b=km) w (putW Tryz.prog 161 (.map (some km)) (.string (S m.name)) v w):=by
 obtain ⟨n,f,h,h1,h2,h3,h4⟩:=q;obtain ⟨p1,p2,p3,_⟩:=h1.put Za3 Tryz.underlying161 (by unfold maxLen;omega) (val:=v) (ZcE m.name hn);have ht:h (.string m.name)=false:=by
  cases hh:h (.string m.name) with
  | false=>rfl
  | true=>exact absurd ((h3 m.name).1 hh) hm
 rw [ht] at p2;refine ⟨p1,⟨_,_,_,p2,by rw [Yak];simp;omega,fun nm=>?_,fun nm hh=>?_⟩,p3⟩
 ·by_cases e:nm=m.name
  ·subst e;rw [ZbX];exact ⟨fun _=>⟨m,by simp,rfl⟩,fun _=>rfl⟩
  ·rw [Za8 h true (show Lit.string nm ≠ Lit.string m.name from fun q=>e (Lit.string.inj q)),h3];constructor
   ·rintro ⟨k,hk,e2⟩;exact ⟨k,Ya7 _ hk,e2⟩
   ·rintro ⟨k,hk,e2⟩;rcases Yao.1 hk with hk|hk
    ·exact ⟨k,hk,e2⟩
    ·obtain rfl:=YaA.1 hk;exact absurd e2.symm e
 ·by_cases e:nm=m.name
  ·subst e;refine ⟨inhE es x m,?_,?_⟩
   ·unfold knOf;rw [List.find?_append,Ycj.2 (fun k hk=>by simp only [beq_iff_eq];exact fun e2=>hm ⟨k,hk,e2⟩)];simp
   ·rw [ZbX];exact MthR.st.keep hv p3 (fun b hb (e2:b=km)=>by omega)
  ·have hne:Lit.string nm ≠ Lit.string m.name:=fun q=>e (Lit.string.inj q)
   rw [Za8 h true hne] at hh;obtain ⟨k,hk,hvk⟩:=h4 nm hh;refine ⟨k,by rw [Zgw ((h3 nm).1 hh)];exact hk,?_⟩;rw [Za8 f v hne];exact MthR.st.keep hvk p3 (fun b hb (e2:b=km)=>by omega)
theorem ZhF {w X:World} {b n:Nat} {f:Lit->Value} {h:Lit->Bool} {key v:Value} {kl:Lit} (q:MapF Tryz.prog 9 (.agg #[.string ⟨#[]⟩,.slice none 0 0,.string ⟨#[]⟩,.bool false,.int .i64 0,.slice none 0 0,.slice none 0 0]) w b n f h) (hkey:keyOf Tryz.prog 9 key=some kl) (hX:Below w.heap.size w X)
  (hl:(Instr.lookup 161 (.map (some b)) key false).run Tryz.prog w=.ok v w):(Instr.lookup 161 (.map (some b)) key false).run Tryz.prog X=.ok v X:=by
 have h1:=q.look Za3 Tryz.underlying161 (Zen w) hkey;have h2:=(q.keep (Yad (S:=fun _=>False) hX) id).look Za3 Tryz.underlying161 (Zen X) hkey;obtain ⟨e,_⟩:=Result.ok.inj (hl.symm.trans h1);rw [e];exact h2
theorem Zl0 {A:Nat->Prop} {B:Nat->Nat} {T mb:Nat} {es:List Ent} {w0:World} (hT:Tab A w0 T mb B es) (hS:Shape es) (hu:Zc3 es) (hml:∀ i,(Zar es i).length<=9223372036854775807) (x:Nat) (hx:x<es.length) (m:Mth) (v:Value) (ms:List Mth) (kb cb km:Nat) (w:World) (hw:Below w0.heap.size w0 w)
  (hv:MthR (fun k=>k<w0.heap.size) w m v) (hk:w.cell? ⟨kb,0,none⟩=some (.map (some km))) (hc:w.cell? ⟨cb,0,none⟩=some (entV B x)) (hK:Kn w0 es x km ms w) (hkm:w0.heap.size<=km) (hkb:kb ≠ km) (hcb:cb ≠ km) (hn:m.name.length<=9223372036854775807) (hl:ms.length<9223372036854775807)
  (hbr:m.brief) (hbk:∀ k,knOf es x (ms++[m]) m.name=some k->k.brief) :
  Calls Tryz.prog 180 #[v,.pointer (some ⟨kb,0,none⟩),.pointer (some ⟨cb,0,none⟩)] w
   (fun e w'=>YesNo (fun _=>clash es x (ms++[m]) m=true) (fun w'=>Kn w0 es x km (ms++[m]) w'/\clash es x (ms++[m]) m=false) e w'/\Only (fun b=>b=km) w w'):=by
 have HV:=Hd hv;obtain ⟨_,_,_,rfl,⟨po,pc,rfl⟩,⟨co,cc,rfl⟩,⟨ko,kc,rfl⟩⟩:=Zam hv;have hb0:Below w.heap.size w (w.alloc (.cells #[.string (S m.name),.slice po m.params.length pc,.string (S m.res),.bool m.abs,.int .i64 m.loc,.slice co m.code.length cc,.slice ko m.cats.length kc] 44)):=Zaa (Yab _ _) _;have ho0:Only (fun _=>False) w (w.alloc (.cells #[.string (S m.name),.slice po m.params.length pc,.string (S m.res),.bool m.abs,.int .i64 m.loc,.slice co m.code.length cc,.slice ko m.cats.length kc] 44)):=Yad hb0;have HX:=Hd (Box.new w #[.string (S m.name),.slice po m.params.length pc,.string (S m.res),.bool m.abs,.int .i64 m.loc,.slice co m.code.length cc,.slice ko m.cats.length kc] 44);have HB0:=Hd hb0;have HK0:=Hd (hK.keep ho0 id (fun _ _=>id));have hkA:=ho0.cell hk id;have hcA:=ho0.cell hc id;have HLT:Hid (km<w.heap.size/\kb<w.heap.size/\cb<w.heap.size):=Hd (by
  obtain ⟨_,_,_,h1,_⟩:=hK;exact ⟨h1.lt,World.block_lt_of_cell? w _ hk,World.block_lt_of_cell? w _ hc⟩)
 have HINH:Hid (∀ X,Below w0.heap.size w0 X->MthR (fun k=>k<w0.heap.size) X m (.agg #[.string (S m.name),.slice po m.params.length pc,.string (S m.res),.bool m.abs,.int .i64 m.loc,.slice co m.code.length cc,.slice ko m.cats.length kc])->Calls Tryz.prog 181 #[entV B x,.agg #[.string (S m.name),.slice po m.params.length pc,.string (S m.res),.bool m.abs,.int .i64 m.loc,.slice co m.code.length cc,.slice ko m.cats.length kc]] X (fun e w'=>∃ v',e=.returned v'/\MthR (fun k=>k<w0.heap.size) w' (inhE es x m) v'/\Below X.heap.size X w')):=Hd (fun X hX hvX=>ZpR hT hS hu hml x hx m _ X hX hvX);have HW:=Hd hw;have HN:=Hd hn;have HL:=Hd hl;have HKM:=Hd hkm;have HKB:=Hd hkb;have HCB:=Hd hcb;have HBR:=Hd hbr;have HBK:=Hd hbk;clear hT hS hu hml hx hw hv hk hc hK hkm hkb hcb hn hl hbr hbk hb0 ho0;go_enter Tryz.func180,Tryz.ntmps180
 go_upto_region 1 with fail
 generalize w.alloc (.cells #[.string (S m.name),.slice po m.params.length pc,.string (S m.res),.bool m.abs,.int .i64 m.loc,.slice co m.code.length cc,.slice ko m.cats.length kc] 44)=W0 at HX HB0 HK0 hkA hcA ⊢;obtain ⟨bm,hbm⟩:∃ bm,bm=w.heap.size:=⟨_,rfl⟩
 rw [←hbm] at HX ⊢;have HBM:=Hd hbm;clear hbm;have x0:W0.cell? ⟨bm,0,none⟩=some (.string (S m.name)):=HX.o.cell 0 rfl;by_cases hm:∃ k ∈ ms,k.name=m.name
 ·obtain ⟨k0,vk0,_,hvk0,_,hlk0⟩:=HK0.o.look m.name HN.o hm;obtain ⟨_,_,_,rfl,⟨qo0,qc0,rfl⟩,⟨dd0,dc0,rfl⟩,⟨lo0,lc0,rfl⟩⟩:=Zam hvk0;have HMM:=Hd hm;clear hm hvk0
  go_upto_region 4 with fail
  refine Zav (fun wx=>Kn w0 es x km (ms++[m]) wx/\Only (fun b=>b=km) w wx/\Box wx bm #[.string (S m.name),.slice po m.params.length pc,.string (S m.res),.bool m.abs,.int .i64 m.loc,.slice co m.code.length cc,.slice ko m.cats.length kc] 44/\wx.cell? ⟨kb,0,none⟩=some (.map (some km))) ⟨(HK0.o.more HMM.o).keep ((Yan (fun _=>False) W0).alloc _) id (fun _ _=>id),(Yad HB0.o).alloc _,HX.o.below (Zaa (Yab _ _) _),((Yan (fun _=>False) W0).alloc _).cell hkA id⟩ ?_;rintro wx ⟨hkn,hxo,hxm,hkb⟩;clear x0 hlk0 hkA hcA HINH HX HB0 HK0;have HKN:=Hd hkn;have HXO:=Hd hxo;have HXM:=Hd hxm;have hkbx:=hkb;obtain ⟨k,vk,hkk,hvk,hlk,_⟩:=hkn.look m.name HN.o ⟨m,by simp,rfl⟩;have HVK:=Hd hvk;have HKK:=Hd hkk;obtain ⟨_,_,_,rfl,⟨qo,qc,rfl⟩,⟨dd,dc,rfl⟩,⟨lo,lc,rfl⟩⟩:=Zam hvk;have HS4:Hid (∀ X,Below wx.heap.size wx X->X.cell? ⟨kb,0,none⟩=some (.map (some km))/\X.cell? ⟨bm,0,none⟩=some (.string (S m.name))/\X.cell? ⟨bm,1,none⟩=some (.slice po m.params.length pc)/\X.cell? ⟨bm,2,none⟩=some (.string (S m.res))/\X.cell? ⟨bm,3,none⟩=some (.bool m.abs)/\X.cell? ⟨bm,4,none⟩=some (.int .i64 m.loc)/\X.cell? ⟨bm,5,none⟩=some (.slice co m.code.length cc)/\X.cell? ⟨bm,6,none⟩=some (.slice ko m.cats.length kc)/\(Instr.lookup 161 (.map (some km)) (.string (S m.name)) false).run Tryz.prog X=.ok (.agg #[.string (S k.name),.slice qo k.params.length qc,.string (S k.res),.bool k.abs,.int .i64 k.loc,.slice dd k.code.length dc,.slice lo k.cats.length lc]) X):=Hd (fun X hX=>by
   have ho:=Yad (S:=fun _=>False) hX;have hxb:=HXM.o.below hX;refine ⟨ho.cell hkbx id,hxb.cell 0 rfl,hxb.cell 1 rfl,hxb.cell 2 rfl,hxb.cell 3 rfl,hxb.cell 4 rfl,hxb.cell 5 rfl,hxb.cell 6 rfl,?_⟩;obtain ⟨_,_,_,h1,_⟩:=HKN.o;exact ZhF h1 (ZcE m.name HN.o) hX hlk)
  have HSM:Hid (∀ X,Below wx.heap.size wx X->Calls Tryz.prog 182 #[.agg #[.string (S m.name),.slice po m.params.length pc,.string (S m.res),.bool m.abs,.int .i64 m.loc,.slice co m.code.length cc,.slice ko m.cats.length kc]] X (Zca (ZaJ m) X)):=Hd (fun X hX=>Zd3 m _ X (MthR.st.keep HV.o (HXO.o.then (Yad (S:=fun _=>False) hX) (fun _ _ q=>q.elim)) (fun b hb (e:b=km)=>by have h1:=HKM.o;have h2:b<w0.heap.size:=hb;omega)) HBR.o);have HSK:Hid (∀ X,Below wx.heap.size wx X->Calls Tryz.prog 182 #[.agg #[.string (S k.name),.slice qo k.params.length qc,.string (S k.res),.bool k.abs,.int .i64 k.loc,.slice dd k.code.length dc,.slice lo k.cats.length lc]] X (Zca (ZaJ k) X)):=Hd (fun X hX=>Zd3 k _ X (MthR.st.keep HVK.o (Yad (S:=fun _=>False) hX) (fun _ _=>id)) (HBK.o k HKK.o));have HCL:Hid (clash es x (ms++[m]) m=(ZaJ m != ZaJ k)):=Hd (by unfold clash;rw [HKK.o]);unfold Zca at HSM HSK;clear hkn hxo hxm hkk hvk hkbx hkb hlk;have h0:Below wx.heap.size wx wx:=Yab _ _;obtain ⟨g0,g1,g2,g3,g4,g5,g6,g7,g8⟩:=HS4.o wx h0;have e0:=Zae (ZaJ m);have e1:=Zae (ZaJ k);generalize ZaJ m=sm at HSM HCL e0;generalize ZaJ k=sk at HSK HCL e1
  go_upto_region 4 with fail
  first
  | (go_region_held3 (fun X=>X.cell? ⟨kb,0,none⟩=some (.map (some km))/\X.cell? ⟨bm,0,none⟩=some (.string (S m.name))/\X.cell? ⟨bm,1,none⟩=some (.slice po m.params.length pc)/\X.cell? ⟨bm,2,none⟩=some (.string (S m.res))/\X.cell? ⟨bm,3,none⟩=some (.bool m.abs)/\X.cell? ⟨bm,4,none⟩=some (.int .i64 m.loc)/\X.cell? ⟨bm,5,none⟩=some (.slice co m.code.length cc)/\X.cell? ⟨bm,6,none⟩=some (.slice ko m.cats.length kc)/\(Instr.lookup 161 (.map (some km)) (.string (S m.name)) false).run Tryz.prog X=.ok (.agg #[.string (S k.name),.slice qo k.params.length qc,.string (S k.res),.bool k.abs,.int .i64 k.loc,.slice dd k.code.length dc,.slice lo k.cats.length lc]) X) ((refine HS4.o _ ?_;(repeat (first|(with_reducible exact Yab _ _)|(with_reducible (apply Zac;rotate_left;assumption))|(with_reducible refine Zab ?_)))))
    (first
     | ((with_reducible refine (HSM.o _ ?_).mono ?_);(focus ((repeat (first|(with_reducible exact Yab _ _)|(with_reducible (apply Zac;rotate_left;assumption))|(with_reducible refine Zab ?_)));done));rintro e1 w1 ⟨rfl,b1⟩)
     | ((with_reducible refine (HSK.o _ ?_).mono ?_);(focus ((repeat (first|(with_reducible exact Yab _ _)|(with_reducible (apply Zac;rotate_left;assumption))|(with_reducible refine Zab ?_)));done));rintro e2 w2 ⟨rfl,b2⟩)))
  | fail
  all_goals
   have hb9:Below wx.heap.size wx w2:=by
    have c1:Below wx.heap.size wx w1:=(by first|exact Zac h0 b1|exact Zac (Zab h0) b1|exact Zac (Zab (Zab h0)) b1);first|exact Zac c1 b2|exact Zac (Zab c1) b2|exact Zac (Zab (Zab c1)) b2
   have HB9:=Hd hb9;clear hb9 b1 b2 g0 g1 g2 g3 g4 g5 g6 g7 g8 h0 HS4 HSM HSK;go_wp2;go_ret;refine ⟨⟨sm != sk,by (cases hq:(sm == sk) <;> simp [bne,hq]),fun h=>by (rw [HCL.o];exact h),fun h=>⟨HKN.o.keep (Yad (S:=fun _=>False) HB9.o) id (fun _ _=>id),by (rw [HCL.o];exact h)⟩⟩,HXO.o.then (Yad (S:=fun _=>False) HB9.o) (fun _ _ q=>q.elim)⟩
 ·have hlk0:=HK0.o.look_no m.name HN.o hm;have HMM:=Hd hm;clear hm
  go_upto_region 3 with fail
  refine Zav (fun wx=>Kn w0 es x km ms wx/\Below W0.heap.size W0 wx) ⟨HK0.o.keep ((Yan (fun _=>False) W0).alloc _) id (fun _ _=>id),Zaa (Yab _ _) _⟩ ?_;rintro wr ⟨hknr,hbr⟩;have HKR:=Hd hknr;have HBWR:=Hd hbr;have HS3:Hid (∀ X,Only (fun b=>b=km) wr X->X.cell? ⟨kb,0,none⟩=some (.map (some km))/\X.cell? ⟨cb,0,none⟩=some (entV B x)/\X.cell? ⟨bm,0,none⟩=some (.string (S m.name))/\X.cell? ⟨bm,1,none⟩=some (.slice po m.params.length pc)/\X.cell? ⟨bm,2,none⟩=some (.string (S m.res))/\X.cell? ⟨bm,3,none⟩=some (.bool m.abs)/\X.cell? ⟨bm,4,none⟩=some (.int .i64 m.loc)/\X.cell? ⟨bm,5,none⟩=some (.slice co m.code.length cc)/\X.cell? ⟨bm,6,none⟩=some (.slice ko m.cats.length kc)):=Hd (fun X hX=>by
   have ho0:Only (fun b=>b=km) W0 X:=(Yad HBWR.o).trans hX;have nk:∀ b,b ≠ km->¬ b=km:=fun _ h=>h
   have hxb:=HX.o.keep ho0 (fun e=>by have h1:=HBM.o;have h2:=HLT.o.1;omega);exact ⟨ho0.cell hkA HKB.o,ho0.cell hcA HCB.o,hxb.cell 0 rfl,hxb.cell 1 rfl,hxb.cell 2 rfl,hxb.cell 3 rfl,hxb.cell 4 rfl,hxb.cell 5 rfl,hxb.cell 6 rfl⟩)
  have HCALL:Hid (∀ X,Below wr.heap.size wr X->Calls Tryz.prog 181 #[entV B x,.agg #[.string (S m.name),.slice po m.params.length pc,.string (S m.res),.bool m.abs,.int .i64 m.loc,.slice co m.code.length cc,.slice ko m.cats.length kc]] X (fun e w1=>∃ v1,e=.returned v1/\Only (fun b=>b=km) wr w1/\(Instr.mapUpdate 161 (.map (some km)) (.string (S m.name)) v1).run Tryz.prog w1=.ok () (putW Tryz.prog 161 (.map (some km)) (.string (S m.name)) v1 w1)/\Kn w0 es x km (ms++[m]) (putW Tryz.prog 161 (.map (some km)) (.string (S m.name)) v1 w1)/\Only (fun b=>b=km) wr (putW Tryz.prog 161 (.map (some km)) (.string (S m.name)) v1 w1))):=Hd (fun X hX=>by
   have hwX:Below w.heap.size w X:=HB0.o.trans ((HBWR.o.trans (hX.mono HBWR.o.size)).mono HB0.o.size);refine (HINH.o X (HW.o.trans (hwX.mono HW.o.size)) (MthR.st.keep HV.o (Yad (S:=fun _=>False) hwX) (fun _ _=>id))).mono ?_;rintro e1 w1 ⟨v1,rfl,hv1,hb1⟩;have hb2:Below wr.heap.size wr w1:=hX.trans (hb1.mono hX.size);obtain ⟨p1,p2,p3⟩:=(HKR.o.keep (Yad (S:=fun _=>False) hb2) id (fun _ _=>id)).put HMM.o HN.o HL.o HKM.o hv1;exact ⟨v1,rfl,Yad hb2,p1,p2,(Yad hb2).trans p3⟩)
  have h0:Only (fun b=>b=km) wr wr:=Yan _ _;obtain ⟨g0,g1,g2,g3,g4,g5,g6,g7,g8⟩:=HS3.o wr h0;clear x0 hknr hbr hlk0 HINH HK0;first
  | (go_region_held3 (fun X=>X.cell? ⟨kb,0,none⟩=some (.map (some km))/\X.cell? ⟨cb,0,none⟩=some (entV B x)/\X.cell? ⟨bm,0,none⟩=some (.string (S m.name))/\X.cell? ⟨bm,1,none⟩=some (.slice po m.params.length pc)/\X.cell? ⟨bm,2,none⟩=some (.string (S m.res))/\X.cell? ⟨bm,3,none⟩=some (.bool m.abs)/\X.cell? ⟨bm,4,none⟩=some (.int .i64 m.loc)/\X.cell? ⟨bm,5,none⟩=some (.slice co m.code.length cc)/\X.cell? ⟨bm,6,none⟩=some (.slice ko m.cats.length kc)) ((refine HS3.o _ ?_;(repeat (first|(with_reducible exact Yan _ _)|(with_reducible assumption)|(with_reducible refine Ybr ?_)))))
    (first
     | ((with_reducible refine (HCALL.o _ ?_).mono ?_);(focus ((repeat (first|(with_reducible exact Yab _ _)|(with_reducible (apply Zac;rotate_left;assumption))|(with_reducible refine Zab ?_)));done));rintro e1 w1 ⟨v1,rfl,o1,p1,p2,p3⟩)))
  | fail
  clear g0 g1 g2 g3 g4 g5 g6 g7 g8 h0;obtain ⟨_,hs2,hs3⟩:=HS3.o _ p3
  go_upto_region 4 with fail
  refine Zav (fun wx=>Kn w0 es x km (ms++[m]) wx/\Only (fun b=>b=km) w wx/\Box wx bm #[.string (S m.name),.slice po m.params.length pc,.string (S m.res),.bool m.abs,.int .i64 m.loc,.slice co m.code.length cc,.slice ko m.cats.length kc] 44/\wx.cell? ⟨kb,0,none⟩=some (.map (some km))) ⟨p2,(Yad HB0.o).trans ((Yad HBWR.o).trans p3),(HX.o.below HBWR.o).keep p3 (fun e=>by have h1:=HBM.o;have h2:=HLT.o.1;omega),(HS3.o _ p3).1⟩ ?_;rintro wx ⟨hkn,hxo,hxm,hkb⟩;clear hkA hcA HX HB0 p1 p2 p3 o1 hs2 hs3 HS3 HCALL HKR HBWR;have HKN:=Hd hkn;have HXO:=Hd hxo;have HXM:=Hd hxm;have hkbx:=hkb;obtain ⟨k,vk,hkk,hvk,hlk,_⟩:=hkn.look m.name HN.o ⟨m,by simp,rfl⟩;have HVK:=Hd hvk;have HKK:=Hd hkk;obtain ⟨_,_,_,rfl,⟨qo,qc,rfl⟩,⟨dd,dc,rfl⟩,⟨lo,lc,rfl⟩⟩:=Zam hvk;have HS4:Hid (∀ X,Below wx.heap.size wx X->X.cell? ⟨kb,0,none⟩=some (.map (some km))/\X.cell? ⟨bm,0,none⟩=some (.string (S m.name))/\X.cell? ⟨bm,1,none⟩=some (.slice po m.params.length pc)/\X.cell? ⟨bm,2,none⟩=some (.string (S m.res))/\X.cell? ⟨bm,3,none⟩=some (.bool m.abs)/\X.cell? ⟨bm,4,none⟩=some (.int .i64 m.loc)/\X.cell? ⟨bm,5,none⟩=some (.slice co m.code.length cc)/\X.cell? ⟨bm,6,none⟩=some (.slice ko m.cats.length kc)/\(Instr.lookup 161 (.map (some km)) (.string (S m.name)) false).run Tryz.prog X=.ok (.agg #[.string (S k.name),.slice qo k.params.length qc,.string (S k.res),.bool k.abs,.int .i64 k.loc,.slice dd k.code.length dc,.slice lo k.cats.length lc]) X):=Hd (fun X hX=>by
   have ho:=Yad (S:=fun _=>False) hX;have hxb:=HXM.o.below hX;refine ⟨ho.cell hkbx id,hxb.cell 0 rfl,hxb.cell 1 rfl,hxb.cell 2 rfl,hxb.cell 3 rfl,hxb.cell 4 rfl,hxb.cell 5 rfl,hxb.cell 6 rfl,?_⟩;obtain ⟨_,_,_,h1,_⟩:=HKN.o;exact ZhF h1 (ZcE m.name HN.o) hX hlk)
  have HSM:Hid (∀ X,Below wx.heap.size wx X->Calls Tryz.prog 182 #[.agg #[.string (S m.name),.slice po m.params.length pc,.string (S m.res),.bool m.abs,.int .i64 m.loc,.slice co m.code.length cc,.slice ko m.cats.length kc]] X (Zca (ZaJ m) X)):=Hd (fun X hX=>Zd3 m _ X (MthR.st.keep HV.o (HXO.o.then (Yad (S:=fun _=>False) hX) (fun _ _ q=>q.elim)) (fun b hb (e:b=km)=>by have h1:=HKM.o;have h2:b<w0.heap.size:=hb;omega)) HBR.o);have HSK:Hid (∀ X,Below wx.heap.size wx X->Calls Tryz.prog 182 #[.agg #[.string (S k.name),.slice qo k.params.length qc,.string (S k.res),.bool k.abs,.int .i64 k.loc,.slice dd k.code.length dc,.slice lo k.cats.length lc]] X (Zca (ZaJ k) X)):=Hd (fun X hX=>Zd3 k _ X (MthR.st.keep HVK.o (Yad (S:=fun _=>False) hX) (fun _ _=>id)) (HBK.o k HKK.o));have HCL:Hid (clash es x (ms++[m]) m=(ZaJ m != ZaJ k)):=Hd (by unfold clash;rw [HKK.o]);unfold Zca at HSM HSK;clear hkn hxo hxm hkk hvk hkbx hkb hlk;have h0:Below wx.heap.size wx wx:=Yab _ _;obtain ⟨g0,g1,g2,g3,g4,g5,g6,g7,g8⟩:=HS4.o wx h0;have e0:=Zae (ZaJ m);have e1:=Zae (ZaJ k);generalize ZaJ m=sm at HSM HCL e0;generalize ZaJ k=sk at HSK HCL e1
  go_upto_region 4 with fail
  first
  | (go_region_held3 (fun X=>X.cell? ⟨kb,0,none⟩=some (.map (some km))/\X.cell? ⟨bm,0,none⟩=some (.string (S m.name))/\X.cell? ⟨bm,1,none⟩=some (.slice po m.params.length pc)/\X.cell? ⟨bm,2,none⟩=some (.string (S m.res))/\X.cell? ⟨bm,3,none⟩=some (.bool m.abs)/\X.cell? ⟨bm,4,none⟩=some (.int .i64 m.loc)/\X.cell? ⟨bm,5,none⟩=some (.slice co m.code.length cc)/\X.cell? ⟨bm,6,none⟩=some (.slice ko m.cats.length kc)/\(Instr.lookup 161 (.map (some km)) (.string (S m.name)) false).run Tryz.prog X=.ok (.agg #[.string (S k.name),.slice qo k.params.length qc,.string (S k.res),.bool k.abs,.int .i64 k.loc,.slice dd k.code.length dc,.slice lo k.cats.length lc]) X) ((refine HS4.o _ ?_;(repeat (first|(with_reducible exact Yab _ _)|(with_reducible (apply Zac;rotate_left;assumption))|(with_reducible refine Zab ?_)))))
    (first
     | ((with_reducible refine (HSM.o _ ?_).mono ?_);(focus ((repeat (first|(with_reducible exact Yab _ _)|(with_reducible (apply Zac;rotate_left;assumption))|(with_reducible refine Zab ?_)));done));rintro e1 w1 ⟨rfl,b1⟩)
     | ((with_reducible refine (HSK.o _ ?_).mono ?_);(focus ((repeat (first|(with_reducible exact Yab _ _)|(with_reducible (apply Zac;rotate_left;assumption))|(with_reducible refine Zab ?_)));done));rintro e2 w2 ⟨rfl,b2⟩)))
  | fail
  all_goals
   have hb9:Below wx.heap.size wx w2:=by
    have c1:Below wx.heap.size wx w1:=(by first|exact Zac h0 b1|exact Zac (Zab h0) b1|exact Zac (Zab (Zab h0)) b1);first|exact Zac c1 b2|exact Zac (Zab c1) b2|exact Zac (Zab (Zab c1)) b2
   have HB9:=Hd hb9;clear hb9 b1 b2 g0 g1 g2 g3 g4 g5 g6 g7 g8 h0 HS4 HSM HSK;go_wp2;go_ret;refine ⟨⟨sm != sk,by (cases hq:(sm == sk) <;> simp [bne,hq]),fun h=>by (rw [HCL.o];exact h),fun h=>⟨HKN.o.keep (Yad (S:=fun _=>False) HB9.o) id (fun _ _=>id),by (rw [HCL.o];exact h)⟩⟩,HXO.o.then (Yad (S:=fun _=>False) HB9.o) (fun _ _ q=>q.elim)⟩
theorem Zg4 {es:List Ent} {x:Nat} {a b:List Mth} {m:Mth} (h:∃ k ∈ a,k.name=m.name):clash es x (a++b) m=clash es x a m:=by
 unfold clash;rw [Zgw h]
def NoC (es:List Ent) (x:Nat) (ms:List Mth):Prop:=∀ m ∈ ms,clash es x ms m=false
theorem NoC.snoc {es:List Ent} {x:Nat} {ms:List Mth} {m:Mth} (h:NoC es x ms) (hm:clash es x (ms++[m]) m=false):NoC es x (ms++[m]):=fun k hk=>by
 rcases Yao.1 hk with hk|hk
 ·rw [Zg4 ⟨k,hk,rfl⟩];exact h k hk
 ·rw [YaA.1 hk];exact hm
def Zgb (es:List Ent):Prop:=∀ i,∀ m ∈ Zar es i,m.Good
theorem ZgB {es:List Ent} {x:Nat} {n:List UInt8} {m:Mth} (h:ownM es x n=some m):m ∈ Zar es x/\m.name=n:=by
 unfold ownM at h;exact ⟨Ycm h,by have:=Ycq h;simpa using this⟩
theorem Zdb {es:List Ent} {o:Option Nat} {n:List UInt8} {r:Nat × Mth} (h:ZbI es o n=some r):r.1 ∈ ZaE es o/\ownM es r.1 n=some r.2:=by
 unfold ZbI at h;obtain ⟨l1,a,l2,h1,h2,_⟩:=Ych.1 h;obtain ⟨m,h3,h4⟩:=YaU.1 h2;subst h4;exact ⟨by rw [h1];simp,h3⟩
theorem Zmy {es:List Ent} (hg:Zgb es) {x:Nat} {m:Mth} (hm:m.Good):(inhE es x m).Good:=by
 unfold inhE orM;cases h:ZbI es (upAt es x) m.name with
 | none=>exact hm
 | some r=>exact hg r.1 r.2 (ZgB (Zdb h).2).1
theorem ZmI {es:List Ent} (hg:Zgb es) {x:Nat} {ms:List Mth} (hms:∀ m ∈ ms,m.Good) {n:List UInt8} {k:Mth} (h:knOf es x ms n=some k):k.Good:=by
 unfold knOf at h;obtain ⟨m,h1,h2⟩:=YaU.1 h;subst h2;exact Zmy hg (hms m (Ycm h1))
structure DJ (w0:World) (es:List Ent) (B:Nat->Nat) (x kb cb km:Nat) (ms:List Mth) (w:World):Prop where
 bel:Below w0.heap.size w0 w
 kn:Kn w0 es x km ms w
 ckb:w.cell? ⟨kb,0,none⟩=some (.map (some km))
 ccb:w.cell? ⟨cb,0,none⟩=some (entV B x)
 no:NoC es x ms
theorem ZlZ {A:Nat->Prop} {B:Nat->Nat} {T mb:Nat} {es:List Ent} {w0:World} (hT:Tab A w0 T mb B es) (hS:Shape es) (hu:Zc3 es) (hml:∀ i,(Zar es i).length<=32) (hg:Zgb es) (x:Nat) (hx:x<es.length) (d:Nat) (hd:d<es.length) (ms:List Mth) (kb cb km:Nat) (w:World) (hkm:w0.heap.size<=km) (hkb:kb ≠ km) (hcb:cb ≠ km)
  (hms:∀ m ∈ ms,m.Good) (hl:ms.length<=1099511627776) (hJ:DJ w0 es B x kb cb km ms w) :
  Calls Tryz.prog 179 (#[entV B d]++#[.pointer (some ⟨kb,0,none⟩),.pointer (some ⟨cb,0,none⟩)]) w
   (fun e w'=>YesNo (fun _=>∃ k m,(Zar es d)[k]? = some m/\clash es x (ms++(Zar es d).take (k+1)) m=true) (DJ w0 es B x kb cb km (ms++Zar es d)) e w'/\Only (fun b=>b=km) w w'):=by
 have hmf:∀ (fn:Fn) (first cap:Array Value) (w:World),(Instr.makeFunc fn first cap).run Tryz.prog w=.ok (.func fn first cap) w:=fun _ _ _ _=>rfl
 obtain ⟨e,he⟩:∃ e,es[d]? = some e:=⟨_,Yaa hd⟩
 obtain ⟨lv,fv,mv,sv,hb,_,_,h3,_⟩:=hT.ent d e he;have hma:=Zcg he;have hl2:=hml d;have hgd:=hg d;rw [hma] at hl2 hgd ⊢;have c8:w.cell? ⟨B d,8,none⟩=some mv:=(hb.below hJ.bel).cell 8 rfl;have h3':=MthR.st.srcMono (A':=fun k=>k<w0.heap.size) h3 (fun k hk _=>hk);have hbel:∀ w',Only (fun b=>b=km) w w'->Below w0.heap.size w0 w':=fun w' ho=>hJ.bel.trans (ho.below hJ.bel.size (fun b (e:b=km)=>by omega))
 have HC:=Hd (ZlN (A:=fun k=>k<w0.heap.size) 180 #[.pointer (some ⟨kb,0,none⟩),.pointer (some ⟨cb,0,none⟩)] e.cls.mths mv
  (fun k w'=>Kn w0 es x km (ms++e.cls.mths.take k) w'/\NoC es x (ms++e.cls.mths.take k)/\Only (fun b=>b=km) w w')
  (fun k w'=>(∃ m,e.cls.mths[k]? = some m/\clash es x (ms++e.cls.mths.take (k+1)) m=true)/\Only (fun b=>b=km) w w') w (Zai Tryz.func180 (by kernel_rfl) rfl)
  (fun k w' h=>MthR.st.below h3' (hbel w' h.2.2)) ⟨by rw [YbM,Ya2];exact hJ.kn,by rw [YbM,Ya2];exact hJ.no,Yan _ _⟩
  (fun k m v w1 hm hj hv=>by
   have hmg:=hgd m (Yaf hm);have htk:ms++e.cls.mths.take (k+1)=(ms++e.cls.mths.take k)++[m]:=by rw [YaL,hm,YaW];rfl
   have hallg:∀ q ∈ (ms++e.cls.mths.take k)++[m],q.Good:=fun q hq=>by
    rcases Yao.1 hq with hq|hq
    ·rcases Yao.1 hq with hq|hq
     ·exact hms q hq
     ·exact hgd q (Ybh hq)
    ·rw [YaA.1 hq];exact hmg
   refine (Zl0 hT hS hu (fun i=>by have:=hml i;omega) x hx m v (ms++e.cls.mths.take k) kb cb km w1 (hbel w1 hj.2.2) hv (hj.2.2.cell hJ.ckb hkb) (hj.2.2.cell hJ.ccb hcb) hj.1 hkm hkb hcb (by have:=Zgy hmg.name;omega) (by rw [Yak,Yay];omega) hmg.brief (fun q hq=>(ZmI hg hallg hq).brief)).mono ?_;rintro e1 w2 ⟨hyn,hon⟩;refine hyn.mono' (fun h=>⟨⟨m,hm,by rw [htk];exact h⟩,hj.2.2.trans hon⟩) (fun h=>?_);dsimp only;rw [htk];exact ⟨h.1,hj.2.1.snoc h.2,hj.2.2.trans hon⟩) (by omega))
 obtain ⟨mo,mc,rfl⟩:=h3.shape;have HJ:=Hd hJ;have HBEL:=Hd hbel;have HKB:=Hd hkb;have HCB:=Hd hcb;have HLN:=Hd (rfl:e.cls.mths.length=e.cls.mths.length);obtain ⟨n,hn⟩:∃ n,n=e.cls.mths.length:=⟨_,rfl⟩
 have HN:=Hd hn;rw [←hn] at HC c8;clear hT hS hu hml hg hx hd hms hl hJ hkm hkb hcb he hb h3 h3' hma hl2 hgd hbel hn;go_enter Tryz.func179,Tryz.ntmps179
 go_wp2_with fail
 refine HC.o.mono ?_;rintro e1 w1 ⟨b,rfl,hy,hno⟩;cases b with
 | true=>
  obtain ⟨k,_,⟨m,hm,hc⟩,ho⟩:=hy rfl;have HM:=Hd hm;have HCL:=Hd hc;have HO:=Hd ho;clear hy hno hm hc ho c8 HC;go_wp2;go_ret;exact ⟨⟨true,rfl,fun _=>⟨k,m,HM.o,HCL.o⟩,(fun h=>by cases h)⟩,HO.o⟩
 | false=>
  obtain ⟨h1,h2,h3⟩:=hno rfl;rw [HN.o,YaJ] at h1 h2;have H1:=Hd h1;have H2:=Hd h2;have H3:=Hd h3;clear hy hno h1 h2 h3 c8 HC;go_wp2;go_ret;exact ⟨⟨false,rfl,(fun h=>by cases h),fun _=>⟨HBEL.o w1 H3.o,H1.o,H3.o.cell HJ.o.ckb HKB.o,H3.o.cell HJ.o.ccb HCB.o,H2.o⟩⟩,H3.o⟩
theorem ZlA {es:List Ent} (hS:Shape es) {x:Nat} (hx:x<es.length):(Zau es x).length<=es.length+1:=by
 obtain ⟨e,he⟩:∃ e,es[x]? = some e:=⟨_,Yaa hx⟩
 have h1:=ZcI es.length (vis es es.length [] (lkOf es x)) (by have:=Zem es es.length [] (lkOf es x) .nil;rwa [Ybm] at this) (fun y hy=>Zh6 _ _ _ (by rw [Zba he];exact hS.deep x e he) y hy);unfold Zau;rw [YaI];omega
theorem ZmT {es:List Ent} (hml:∀ i,(Zar es i).length<=32):∀ L:List Nat,(msE es L).length<=L.length * 32
 | []=>Yac _
 | i :: l=>by
  have h1:=ZmT hml l;have h2:=hml i;unfold msE at h1 ⊢;rw [Yb4,Yak,YaI];omega
theorem Zjv {es:List Ent} {L:List Nat} {k d:Nat} (h:L[k]? = some d):msE es (L.take (k+1))=msE es (L.take k)++Zar es d:=by
 unfold msE;rw [YaL,h,Yce];simp
theorem ZoE {es:List Ent} (hg:Zgb es) (L:List Nat):∀ m ∈ msE es L,m.Good:=fun m hm=>by
 obtain ⟨i,_,h⟩:=YbB.1 hm;exact hg i m h
theorem Zj6 {es:List Ent} {x k d j:Nat} {m:Mth} (hd:(Zau es x)[k]? = some d) (hm:(Zar es d)[j]? = some m) (hc:clash es x (msE es ((Zau es x).take k)++(Zar es d).take (j+1)) m=true):ZaL es x=true:=by
 unfold ZaL;have hmem:m ∈ (Zar es d).take (j+1):=by rw [YaL,hm];simp
 have e:∃ r,msE es (Zau es x)=(msE es ((Zau es x).take k)++(Zar es d).take (j+1))++r:=by
  refine ⟨(Zar es d).drop (j+1)++msE es ((Zau es x).drop (k+1)),?_⟩
  conv=>lhs;rw [←Ya1 (k+1) (Zau es x)]
  have h1:msE es ((Zau es x).take (k+1)++(Zau es x).drop (k+1))=msE es ((Zau es x).take (k+1))++msE es ((Zau es x).drop (k+1)):=by unfold msE;rw [Yce]
  rw [h1,Zjv hd]
  conv=>lhs;rw [←Ya1 (j+1) (Zar es d)]
  simp only [YaW]
 obtain ⟨r,hr⟩:=e;rw [hr];refine YaQ.2 ⟨m,Ya7 _ (YaZ _ hmem),?_⟩;rw [Zg4 ⟨m,YaZ _ hmem,rfl⟩];exact hc
theorem Zis {es:List Ent} {x:Nat} (h:NoC es x (msE es (Zau es x))):ZaL es x=false:=by
 unfold ZaL;rw [YaT];exact fun m hm=>by rw [h m hm];decide
theorem Zir {A:Nat->Prop} {B:Nat->Nat} {T mb:Nat} {es:List Ent} {w0:World} (hT:Tab A w0 T mb B es) (hS:Shape es) (hu:Zc3 es) (hml:∀ i,(Zar es i).length<=32) (hg:Zgb es) (x:Nat) (hx:x<es.length) (w:World) (hw:Below w0.heap.size w0 w) :
  Calls Tryz.prog 115 #[entV B x] w (Said (ZaL es x) w):=by
 have hmf:∀ (fn:Fn) (first cap:Array Value) (w:World),(Instr.makeFunc fn first cap).run Tryz.prog w=.ok (.func fn first cap) w:=fun _ _ _ _=>rfl
 have hmm:=@run_makeMap Tryz.prog;have HADD:Hid (∀ cb kb km W,DJ w0 es B x kb cb km [] W->w.heap.size<=km->kb ≠ km->cb ≠ km->km<W.heap.size->Below w.heap.size w W->Calls Tryz.prog 178 #[entV B x,.func (.func 179) #[] #[.pointer (some ⟨kb,0,none⟩),.pointer (some ⟨cb,0,none⟩)]] W (Said (ZaL es x) w)):=Hd (fun cb kb km W hj hkm hkb hcb hlt hbW=>by
  have hws:=hw.size;have hl1:kb<W.heap.size:=World.block_lt_of_cell? W _ hj.ckb;have hl2:cb<W.heap.size:=World.block_lt_of_cell? W _ hj.ccb;have hWs:=hj.bel.size;refine (Zg0 hT hS _ _ (Zai Tryz.func179 (by kernel_rfl) rfl) W.heap.size x hx (fun k w'=>DJ w0 es B x kb cb km (msE es ((Zau es x).take k)) w'/\Only (fun b=>b=km\/W.heap.size<=b) W w') (fun _ w'=>ZaL es x=true/\Only (fun b=>b=km\/W.heap.size<=b) W w') W (fun k w' h=>h.2.size) (fun k w' h=>h.1.bel) (fun k w1 w2 h ho=>?_) (fun k y w1 hy hj1=>?_) ⟨hj,Yan _ _⟩).mono ?_
  ·exact ⟨⟨h.1.bel.trans (ho.below h.1.bel.size (fun b (hb:W.heap.size<=b)=>by omega)),h.1.kn.keep ho (by show ¬ W.heap.size<=km;omega) (fun b hb=>by (show ¬ W.heap.size<=b;omega)),ho.cell h.1.ckb (by show ¬ W.heap.size<=kb;omega),ho.cell h.1.ccb (by show ¬ W.heap.size<=cb;omega),h.1.no⟩,h.2.trans (ho.mono (fun b _ hb=>.inr hb))⟩
  ·have hyl:y<es.length:=by
    rcases Yav.1 (Yaf hy) with e|h
    ·rw [e];exact hx
    ·obtain ⟨e,he⟩:∃ e,es[x]? = some e:=⟨_,Yaa hx⟩
     exact Zh6 _ _ _ (by rw [Zba he];exact hS.deep x e he) y h
   have hlm:=ZmT hml ((Zau es x).take k);have hla:=ZlA hS hx;have hsl:=hS.len;rw [Yay] at hlm;refine (ZlZ hT hS hu hml hg x hx y hyl (msE es ((Zau es x).take k)) kb cb km w1 (by omega) hkb hcb (ZoE hg _) (by omega) hj1.1).mono ?_;rintro e2 w2 ⟨hyn,hon⟩;refine ⟨hyn.mono' (fun ⟨j,m,hm,hc⟩=>⟨Zj6 hy hm hc,hj1.2.trans (hon.mono (fun b _ hb=>.inl hb))⟩) (fun h=>⟨?_,hj1.2.trans (hon.mono (fun b _ hb=>.inl hb))⟩),hon.mono (fun b _ (hb:b=km)=>by omega)⟩;rw [Zjv hy];exact h
  ·rintro e w' ⟨b,rfl,h1,h2⟩;have hfin:∀ w',Only (fun b=>b=km\/W.heap.size<=b) W w'->Below w.heap.size w w':=fun w' ho=>hbW.trans (ho.below hbW.size (fun b hb=>by have:=hbW.size;omega))
   cases b with
   | true=>
    obtain ⟨_,_,h,ho⟩:=h1 rfl;exact ⟨by rw [h],hfin w' ho⟩
   | false=>
    have h:=(h2 rfl).1.no;rw [YaJ] at h;exact ⟨by rw [Zis h],hfin w' (h2 rfl).2⟩)
 have hst:∀ W,W=((w.alloc (.cells #[entV B x] 94)).alloc (.map #[] 0)).alloc (.cells #[.map (some (w.heap.size+1))] 161)->DJ w0 es B x (w.heap.size+1+1) w.heap.size (w.heap.size+1) [] W/\Below w.heap.size w W:=fun W hW=>by
  subst hW;have s1:(w.alloc (.cells #[entV B x] 94)).heap.size=w.heap.size+1:=by simp
  have s2:((w.alloc (.cells #[entV B x] 94)).alloc (.map #[] 0)).heap.size=w.heap.size+1+1:=by simp
  have hbe:Below w.heap.size w (((w.alloc (.cells #[entV B x] 94)).alloc (.map #[] 0)).alloc (.cells #[.map (some (w.heap.size+1))] 161)):=Zaa (Zaa (Zaa (Yab _ _) _) _) _;have xb:=Box.new ((w.alloc (.cells #[entV B x] 94)).alloc (.map #[] 0)) #[.map (some (w.heap.size+1))] 161;rw [s2] at xb;have xm:=MapF.new Tryz.prog 9 (.agg #[.string ⟨#[]⟩,.slice none 0 0,.string ⟨#[]⟩,.bool false,.int .i64 0,.slice none 0 0,.slice none 0 0]) (w.alloc (.cells #[entV B x] 94));rw [s1] at xm;refine ⟨⟨hw.trans (hbe.mono hw.size),⟨0,_,_,xm.keep ((Yan (fun _=>False) _).alloc _) id,Yac _,fun nm=>by simp,fun nm h=>by cases h⟩,xb.cell 0 rfl,((Box.new w #[entV B x] 94).below (Zaa (Zaa (Yab _ _) _) _)).cell 0 rfl,fun m hm=>by cases hm⟩,hbe⟩
 have HST:=Hd hst;generalize ZaL es x=R at HADD ⊢;clear hT hS hu hml hg hx hw hst;go_enter Tryz.func115,Tryz.ntmps115
 go_upto_region 2 with fail
 clear hmm;obtain ⟨hj,hb1⟩:=HST.o _ rfl;have HC:=Hd (HADD.o _ _ _ _ hj (by omega) (by omega) (by omega) (by simp) hb1);have c0:=hj.ccb;clear hj hb1 HST HADD;generalize ((w.alloc (.cells #[entV B x] 94)).alloc (.map #[] 0)).alloc (.cells #[.map (some (w.heap.size+1))] 161)=W1 at HC c0 ⊢
 go_wp2_with fail
 refine HC.o.mono ?_;rintro e w1 ⟨rfl,hb2⟩;have HB2:=Hd hb2;clear hb2 HC c0;go_wp2;go_ret;exact ⟨rfl,HB2.o⟩
