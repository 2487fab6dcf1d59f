/- laws -/
import Derived.Test.YtggcdinoflchjaaGreatDoorK08
import Derived.Lib.ValidLaws
import Derived.Shelf.Unicode.DecodeSlow
import Derived.Deep.LoopGhost
set_option maxRecDepth 100000
set_option maxHeartbeats 16000000
namespace Go.Proofs.YtggcdinoflchjaaGreatDoor
open Go.RowKit
theorem Zl2 {A:Nat->Prop} (y:Nat) (j:Array Value) (p:Mth->List UInt8) (x b:Mth) (z C:Value) (B l:Nat) (w:World) (X:∀ args w,(callFunc y args).run Tryz.prog w=.ok (.enter y args) w)
  (D:MthR A w x z) (F:MthR A w b C) (U:w.cell? ⟨B,0,none⟩=some (.func (.func y) #[] j)) (q:∀ ah u,z.cells[ah]? = some u->w.cell? ⟨l,ah,none⟩=some u) (P:ZjI MthR A y j p w) :
  Calls Tryz.prog 210 #[C,.pointer (some ⟨B,0,none⟩),.pointer (some ⟨l,0,none⟩)] w (Said (p b == p x) w):=by
 have t:Hid (∀ W,Below w.heap.size w W->Calls Tryz.prog y (#[z]++j) W fun e w'=>e=.returned (.string (S (p x)))/\Below W.heap.size W w'):=Hd (fun W m=>(P x z W m (MthR.st.keep D (Yad (S:=fun _=>False) m) (fun _ _=>id))));have v:Hid (∀ W,Below w.heap.size w W->Calls Tryz.prog y (#[C]++j) W fun e w'=>e=.returned (.string (S (p b)))/\Below W.heap.size W w'):=Hd (fun W m=>(P b C W m (MthR.st.keep F (Yad (S:=fun _=>False) m) (fun _ _=>id))));clear P;obtain ⟨_,_,_,rfl,⟨N,H,rfl⟩,⟨K,O,rfl⟩,⟨G,J,rfl⟩⟩:=Zam D;obtain ⟨_,_,_,rfl,⟨i,g,rfl⟩,⟨c,h,rfl⟩,⟨f,d,rfl⟩⟩:=Zam F;have aa:=Zae (p x);have Y:=Zae (p b);generalize p x=ab at t aa ⊢;generalize p b=ac at v Y ⊢;have E:Below w.heap.size w (w.alloc (.cells #[.string (S b.name),.slice i b.params.length g,.string (S b.res),.bool b.abs,.int .i64 b.loc,.slice c b.code.length h,.slice f b.cats.length d] 44)):=(Yab _ w).alloc (Yac _) _;have k:=Hd E;have R:Hid (∀ W,Below (w.alloc (.cells #[.string (S b.name),.slice i b.params.length g,.string (S b.res),.bool b.abs,.int .i64 b.loc,.slice c b.code.length h,.slice f b.cats.length d] 44)).heap.size (w.alloc (.cells #[.string (S b.name),.slice i b.params.length g,.string (S b.res),.bool b.abs,.int .i64 b.loc,.slice c b.code.length h,.slice f b.cats.length d] 44)) W->Calls Tryz.prog y (#[.agg #[.string (S x.name),.slice N x.params.length H,.string (S x.res),.bool x.abs,.int .i64 x.loc,.slice K x.code.length O,.slice G x.cats.length J]]++j) W fun e w'=>e=.returned (.string (S ab))/\Below (w.alloc (.cells #[.string (S b.name),.slice i b.params.length g,.string (S b.res),.bool b.abs,.int .i64 b.loc,.slice c b.code.length h,.slice f b.cats.length d] 44)).heap.size (w.alloc (.cells #[.string (S b.name),.slice i b.params.length g,.string (S b.res),.bool b.abs,.int .i64 b.loc,.slice c b.code.length h,.slice f b.cats.length d] 44)) w'):=Hd (fun W m=>(t.o W (k.o.trans (m.mono k.o.size))).mono (fun _ _ Q=>⟨Q.1,m.trans (Q.2.mono m.size)⟩));have V:Hid (∀ W,Below (w.alloc (.cells #[.string (S b.name),.slice i b.params.length g,.string (S b.res),.bool b.abs,.int .i64 b.loc,.slice c b.code.length h,.slice f b.cats.length d] 44)).heap.size (w.alloc (.cells #[.string (S b.name),.slice i b.params.length g,.string (S b.res),.bool b.abs,.int .i64 b.loc,.slice c b.code.length h,.slice f b.cats.length d] 44)) W->Calls Tryz.prog y (#[.agg #[.string (S b.name),.slice i b.params.length g,.string (S b.res),.bool b.abs,.int .i64 b.loc,.slice c b.code.length h,.slice f b.cats.length d]]++j) W fun e w'=>e=.returned (.string (S ac))/\Below (w.alloc (.cells #[.string (S b.name),.slice i b.params.length g,.string (S b.res),.bool b.abs,.int .i64 b.loc,.slice c b.code.length h,.slice f b.cats.length d] 44)).heap.size (w.alloc (.cells #[.string (S b.name),.slice i b.params.length g,.string (S b.res),.bool b.abs,.int .i64 b.loc,.slice c b.code.length h,.slice f b.cats.length d] 44)) w'):=Hd (fun W m=>(v.o W (k.o.trans (m.mono k.o.size))).mono (fun _ _ Q=>⟨Q.1,m.trans (Q.2.mono m.size)⟩));have s:Hid (∀ W,Below (w.alloc (.cells #[.string (S b.name),.slice i b.params.length g,.string (S b.res),.bool b.abs,.int .i64 b.loc,.slice c b.code.length h,.slice f b.cats.length d] 44)).heap.size (w.alloc (.cells #[.string (S b.name),.slice i b.params.length g,.string (S b.res),.bool b.abs,.int .i64 b.loc,.slice c b.code.length h,.slice f b.cats.length d] 44)) W->(fun W=>W.cell? ⟨B,0,none⟩=some (.func (.func y) #[] j)/\W.cell? ⟨l,0,none⟩=some (.string (S x.name))/\W.cell? ⟨l,1,none⟩=some (.slice N x.params.length H)/\W.cell? ⟨l,2,none⟩=some (.string (S x.res))/\W.cell? ⟨l,3,none⟩=some (.bool x.abs)/\W.cell? ⟨l,4,none⟩=some (.int .i64 x.loc)/\W.cell? ⟨l,5,none⟩=some (.slice K x.code.length O)/\W.cell? ⟨l,6,none⟩=some (.slice G x.cats.length J)/\W.cell? ⟨w.heap.size,0,none⟩=some (.string (S b.name))/\W.cell? ⟨w.heap.size,1,none⟩=some (.slice i b.params.length g)/\W.cell? ⟨w.heap.size,2,none⟩=some (.string (S b.res))/\W.cell? ⟨w.heap.size,3,none⟩=some (.bool b.abs)/\W.cell? ⟨w.heap.size,4,none⟩=some (.int .i64 b.loc)/\W.cell? ⟨w.heap.size,5,none⟩=some (.slice c b.code.length h)/\W.cell? ⟨w.heap.size,6,none⟩=some (.slice f b.cats.length d)) W):=Hd (fun W m=>by
  have n:=Yad (S:=fun _=>False) m;have r:=Yad (S:=fun _=>False) (k.o.trans (m.mono k.o.size));exact ⟨r.cell U id,r.cell (q 0 _ rfl) id,r.cell (q 1 _ rfl) id,r.cell (q 2 _ rfl) id,r.cell (q 3 _ rfl) id,r.cell (q 4 _ rfl) id,r.cell (q 5 _ rfl) id,r.cell (q 6 _ rfl) id,n.cell (a:=⟨w.heap.size,0,none⟩) (by simp) id,n.cell (a:=⟨w.heap.size,1,none⟩) (by simp) id,n.cell (a:=⟨w.heap.size,2,none⟩) (by simp) id,n.cell (a:=⟨w.heap.size,3,none⟩) (by simp) id,n.cell (a:=⟨w.heap.size,4,none⟩) (by simp) id,n.cell (a:=⟨w.heap.size,5,none⟩) (by simp) id,n.cell (a:=⟨w.heap.size,6,none⟩) (by simp) id⟩)
 clear U q E t v;go_enter Tryz.func210,Tryz.ntmps210
 go_upto_region 1 with fail
 generalize (w.alloc (.cells #[.string (S b.name),.slice i b.params.length g,.string (S b.res),.bool b.abs,.int .i64 b.loc,.slice c b.code.length h,.slice f b.cats.length d] 44))=Z at R V s k ⊢;generalize w.heap.size=M at s ⊢;have T:=s.o _ (Yab _ Z);obtain ⟨ar,am,aw,aq,ak,ao,ax,aj,av,au,ai,ae,ag,ad,af⟩:=T;first
 | (go_region_held (fun W=>W.cell? ⟨B,0,none⟩=some (.func (.func y) #[] j)/\W.cell? ⟨l,0,none⟩=some (.string (S x.name))/\W.cell? ⟨l,1,none⟩=some (.slice N x.params.length H)/\W.cell? ⟨l,2,none⟩=some (.string (S x.res))/\W.cell? ⟨l,3,none⟩=some (.bool x.abs)/\W.cell? ⟨l,4,none⟩=some (.int .i64 x.loc)/\W.cell? ⟨l,5,none⟩=some (.slice K x.code.length O)/\W.cell? ⟨l,6,none⟩=some (.slice G x.cats.length J)/\W.cell? ⟨M,0,none⟩=some (.string (S b.name))/\W.cell? ⟨M,1,none⟩=some (.slice i b.params.length g)/\W.cell? ⟨M,2,none⟩=some (.string (S b.res))/\W.cell? ⟨M,3,none⟩=some (.bool b.abs)/\W.cell? ⟨M,4,none⟩=some (.int .i64 b.loc)/\W.cell? ⟨M,5,none⟩=some (.slice c b.code.length h)/\W.cell? ⟨M,6,none⟩=some (.slice f b.cats.length d)) (first|with_reducible exact s.o _ L|with_reducible exact s.o _ I|with_reducible exact s.o _ ((Yab _ _).drew))
   (first|(with_reducible refine (V.o _ (by first|exact L|exact (Yab _ _).drew)).mono ?_;rintro e ap ⟨rfl,I⟩)|(with_reducible refine (R.o _ (by first|exact I|exact (Yab _ _).drew)).mono ?_;rintro e al ⟨rfl,L⟩)))
 | fail
 all_goals
  clear X;go_wp2;go_ret;first|exact ⟨rfl,k.o.trans (L.mono k.o.size)⟩|exact ⟨rfl,k.o.trans (I.mono k.o.size)⟩
theorem Zog {A:Nat->Prop} (K:Nat) (c:Array Value) (h:Mth->List UInt8) (l:List (Mth)) (sv:Value) (w:World) (al:∀ args w,(callFunc K args).run Tryz.prog w=.ok (.enter K args) w)
  (ap:Src 7 MthR A w sv l) (au:ZjI MthR A K c h w) (ai:l.length<=1048576) :
  Calls Tryz.prog 155 #[sv,.func (.func K) #[] c] w (Said (ZbB (l.map h)) w):=by
 have aZ:∀ (am:Fn) (first j:Array Value) (w:World),(Instr.makeFunc am first j).run Tryz.prog w=.ok (.func am first j) w:=fun _ _ _ _=>rfl
 have aO:=Hd al;have ao:=Hd au;have ah:=Hd ap;clear al au;rcases ap with ⟨a1,aW,rfl,rfl⟩|⟨b,o,j,rfl,R,ay⟩
 ·go_enter Tryz.func155,Tryz.ntmps155;go_wp2
  go_loopw [9] (fun O wr=>O=.int .i64 0/\wr=w.alloc (.cells #[.func (.func K) #[] c] 124)) (fun _ _=>0)
  case atStart=>exact ⟨rfl,rfl⟩
  case round=>
   obtain ⟨rfl,rfl⟩:=hrel;go_wp2;go_ret;exact ⟨rfl,(Yab _ w).alloc (Yac _) _⟩
 ·have aw:=Hd ay;have aQ:=Hd R;obtain ⟨n,U⟩:∃ n,n=l.length:=⟨_,rfl⟩
  have aB:n<=j:=by rw [U];exact R.2.2.1
  have aC:j<=9223372036854775807:=R.2.2.2;rw [←U] at ai ah ⊢;have X:=Hd U;clear ay U R;obtain ⟨aA,aj⟩:∃ aA,aA=ZbB (l.map h):=⟨_,rfl⟩
  rw [←aj];have aq:=Hd aj;clear aj;go_enter Tryz.func155,Tryz.ntmps155;go_wp2;have M:Box (w.alloc (.cells #[.func (.func K) #[] c] 124)) w.heap.size #[.func (.func K) #[] c] 124:=Box.new w _ _;have P:Below w.heap.size w (w.alloc (.cells #[.func (.func K) #[] c] 124)):=(Yab _ w).alloc (Yac _) _;generalize w.alloc (.cells #[.func (.func K) #[] c] 124)=Y at M P ⊢;have ac:=Hd M;have B:=Hd P;clear M P;obtain ⟨V,Q⟩:∃ V,V=w.heap.size:=⟨_,rfl⟩
  rw [←Q] at ac ⊢;have aY:=Hd Q;clear Q
  go_loopw [9] (fun O wr=>∃ k:Nat,k<=n/\O=.int .i64 k/\Zbu (l.map h) k=true/\Below Y.heap.size Y wr) (fun O _=>n - (intOf O).toNat)
  case atStart=>exact ⟨0,Yai _,rfl,Zdo _,Yab _ _⟩
  case round=>
   obtain ⟨k,a0,rfl,L,J⟩:=hrel;have ar:=Hd L;have p:=Hd J;have r:Below w.heap.size w wr:=B.o.trans (J.mono B.o.size);have aa:=Hd r;clear L J r;by_cases aU:k<n
   ·have af:k<l.length:=by have:=X.o;omega
    obtain ⟨x,Z⟩:∃ x,l[k]? = some x:=⟨_,Yaa af⟩
    have d:=Yad (S:=fun _=>False) aa.o;obtain ⟨v,ax,az,f⟩:=aw.o k x Z;have aN:=Hd (MthR.st.keep ax d (fun _ _=>id));obtain ⟨_,_,_,rfl,⟨H,G,rfl⟩,⟨F,C,rfl⟩,⟨D,E,rfl⟩⟩:=Zam ax;have aR:wr.cell? ⟨b,o+k * 7,none⟩=some (.string (S x.name)):=d.cell (a:=⟨b,o+k * 7,none⟩) (f 0 _ rfl) id;have aP:wr.cell? ⟨b,o+k * 7+1,none⟩=some (.slice H x.params.length G):=d.cell (a:=⟨b,o+k * 7+1,none⟩) (f 1 _ rfl) id;have aI:wr.cell? ⟨b,o+k * 7+2,none⟩=some (.string (S x.res)):=d.cell (a:=⟨b,o+k * 7+2,none⟩) (f 2 _ rfl) id;have aM:wr.cell? ⟨b,o+k * 7+3,none⟩=some (.bool x.abs):=d.cell (a:=⟨b,o+k * 7+3,none⟩) (f 3 _ rfl) id;have aJ:wr.cell? ⟨b,o+k * 7+4,none⟩=some (.int .i64 x.loc):=d.cell (a:=⟨b,o+k * 7+4,none⟩) (f 4 _ rfl) id;have aL:wr.cell? ⟨b,o+k * 7+5,none⟩=some (.slice F x.code.length C):=d.cell (a:=⟨b,o+k * 7+5,none⟩) (f 5 _ rfl) id;have aH:wr.cell? ⟨b,o+k * 7+6,none⟩=some (.slice D x.cats.length E):=d.cell (a:=⟨b,o+k * 7+6,none⟩) (f 6 _ rfl) id;clear f az;have a3:=Hd Z;have ag:=ZeN h l k x Z;have I:=Zdn (l.map h) k;rw [ar.o,Yax,ag] at I;have t:=Hd I;clear Z af d ag I;have aT:(0:Int)<=k:=by omega
    have aV:(k:Int)<(n:Int):=by omega
    have aX:(k:Int)<=(j:Int):=by omega
    go_wp2_with fail
    have g:Below wr.heap.size wr (wr.alloc (.cells #[.string (S x.name),.slice H x.params.length G,.string (S x.res),.bool x.abs,.int .i64 x.loc,.slice F x.code.length C,.slice D x.cats.length E] 44)):=(Yab _ wr).alloc (Yac _) _;have ae:Box (wr.alloc (.cells #[.string (S x.name),.slice H x.params.length G,.string (S x.res),.bool x.abs,.int .i64 x.loc,.slice F x.code.length C,.slice D x.cats.length E] 44)) wr.heap.size #[.string (S x.name),.slice H x.params.length G,.string (S x.res),.bool x.abs,.int .i64 x.loc,.slice F x.code.length C,.slice D x.cats.length E] 44:=Box.new wr _ _;have m:Below w.heap.size w (wr.alloc (.cells #[.string (S x.name),.slice H x.params.length G,.string (S x.res),.bool x.abs,.int .i64 x.loc,.slice F x.code.length C,.slice D x.cats.length E] 44)):=aa.o.trans (g.mono aa.o.size);have N:Box (wr.alloc (.cells #[.string (S x.name),.slice H x.params.length G,.string (S x.res),.bool x.abs,.int .i64 x.loc,.slice F x.code.length C,.slice D x.cats.length E] 44)) V #[.func (.func K) #[] c] 124:=(ac.o.below p.o).below g;have ad:=MthR.st.below (Src.head aQ.o aw.o k (by have:=X.o;omega)) m;refine (Zc8 (A:=A) 210 _ (fun ak=>h ak == h x) (l.take k) _ _ (Zai Tryz.func210 (by kernel_rfl) rfl) ad (fun i ak aG w' a2 y av=>?_) (by rw [Yay];omega)).mono ?_
    ·have q:Below w.heap.size w w':=m.trans (y.mono m.size);exact Zl2 K c h x ak _ aG V wr.heap.size w' aO.o (MthR.st.keep aN.o (Yad (S:=fun _=>False) (g.trans (y.mono g.size))) (fun _ _=>id)) av ((N.below y).cell 0 rfl) (fun a4 u aK=>(ae.below y).cell a4 aK)
      (fun z aS W aE aF=>ao.o z aS W (q.trans (aE.mono q.size)) aF)
    ·rintro e aD ⟨rfl,r⟩;have q:Below Y.heap.size Y aD:=(p.o.trans (g.mono p.o.size)).trans (r.mono (p.o.trans (g.mono p.o.size)).size);have ab:=Hd q;clear r q g ae m N ad aR aP aI aM aJ aL aH;cases T:((l.take k).any fun ak=>h ak == h x) with
     | true=>
      rw [T] at t;have s:aA=false:=by
       rw [aq.o];unfold ZbB;exact ZeZ _ (k+1) _ (by rw [Yaz];have:=X.o;omega) t.o
      subst s;clear T;go_wp2;go_ret;exact ⟨rfl,B.o.trans (ab.o.mono B.o.size)⟩
     | false=>
      rw [T] at t;clear T;go_wp2
      go_roundw
      case rel=>exact ⟨k+1,by omega,by go_num,t.o,ab.o⟩
      case measure=>simp [intOf];omega
   ·obtain rfl:k=n:=by omega
    have s:aA=true:=by
     rw [aq.o];unfold ZbB;rw [Yaz,←X.o];exact ar.o
    subst s;go_wp2;go_ret;exact ⟨rfl,aa.o⟩
def ZaA (s:List UInt8):Prop:=s.length<=9223372036854775807
structure Mth.Fit (m:Mth):Prop where
 name:ZaA m.name
 res:ZaA m.res
 params:∀ x ∈ m.params,ZaA x
 code:∀ x ∈ m.code,ZaA x.s
 cats:∀ x ∈ m.cats,ZaA x.cls
 n1:m.params.length<=9223372036854775807
 n2:m.code.length<=9223372036854775807
 n3:m.cats.length<=9223372036854775807
structure Cls.Fit (c:Cls):Prop where
 name:ZaA c.name
 sup:ZaA c.sup
 like:∀ x ∈ c.like,ZaA x
 flds:∀ f ∈ c.flds,ZaA f.name/\ZaA f.kind
 mths:∀ m ∈ c.mths,m.Fit
 n1:c.like.length<=9223372036854775807
 n2:c.flds.length<=9223372036854775807
 n3:c.mths.length<=9223372036854775807
theorem ZfW (s:List UInt8) (w:World) (f:ZaA s) :
  Calls Tryz.prog 159 #[.string (S s)] w (Said (memB s) w):=by
 have j:=Hd (ZoF s w f);have i:Hid (∀ w,Calls Tryz.prog 149 #[.string (S s)] w (Said (Zal s) w)):=Hd (fun w=>ZbM s w f);unfold memB;generalize ZbJ s=a at j ⊢;generalize Zal s=b at i ⊢;clear f;go_enter Tryz.func159,Tryz.ntmps159
 go_wp2_with fail
 refine j.o.mono ?_;rintro e k ⟨rfl,c⟩;cases a
 ·go_wp2;go_ret;exact ⟨rfl,c⟩
 ·have g:=Hd c;clear c
  go_wp2_with fail
  refine (i.o _).mono ?_;rintro e w2 ⟨rfl,d⟩;have h:Below w.heap.size w w2:=g.o.trans (d.mono g.o.size);clear d;go_wp2;go_ret;exact ⟨rfl,h⟩
theorem Zlm (f:Fld) (w:World) (n:ZaA f.name) (l:ZaA f.kind) :
  Calls Tryz.prog 104 #[fldV f] w (Said f.ok w):=by
 have m:Hid (∀ w,Calls Tryz.prog 159 #[.string (S f.name)] w (Said (memB f.name) w)):=Hd (fun w=>ZfW f.name w n);have k:Hid (∀ w,Calls Tryz.prog 160 #[.string (S f.kind)] w (Said (Zaj f.kind) w)):=Hd (fun w=>Zfu f.kind w l);unfold Fld.ok;generalize memB f.name=a at m ⊢;generalize Zaj f.kind=b at k ⊢;clear n l;go_enter Tryz.func104,Tryz.ntmps104
 go_wp2_with fail
 have h:=Box.new w #[.string (S f.name),.string (S f.kind),.bool f.tr] 99;have c:Below w.heap.size w (w.alloc (.cells #[.string (S f.name),.string (S f.kind),.bool f.tr] 99)):=(Yab _ w).alloc (Yac _) _;refine (m.o _).mono ?_;rintro e q ⟨rfl,d⟩;have p:=(h.below d).cell 1 rfl;have i:=Hd (c.trans (d.mono c.size));clear h c d;cases a
 ·go_wp2;go_ret;exact ⟨rfl,i.o⟩
 ·go_wp2_with fail
  refine (k.o _).mono ?_;rintro e w2 ⟨rfl,g⟩;have j:Below w.heap.size w w2:=i.o.trans (g.mono i.o.size);clear g p;go_wp2;go_ret;exact ⟨rfl,j⟩
theorem Zll (c:Cat) (n:Nat) (w:World) (r:ZaA c.cls) :
  Calls Tryz.prog 216 #[catV c,.int .i64 (n:Nat)] w (Said (Cat.ok n c) w):=by
 have l:Hid (∀ w,Calls Tryz.prog 149 #[.string (S c.cls)] w (Said (Zal c.cls) w)):=Hd (fun w=>ZbM c.cls w r);unfold Cat.ok;obtain ⟨m,k,at_,cls⟩:=c;dsimp only at l ⊢;generalize Zal cls=b at l ⊢;clear r;by_cases d:0<=m
 case neg=>
  rw [Yaj d];have p:=Yaj d;go_enter Tryz.func216,Tryz.ntmps216;go_wp2;go_ret;exact ⟨rfl,(Yab _ w).alloc (Yac _) _⟩
 rw [Yat d,Yax];have p:=Yat d;by_cases i:m<k
 case neg=>
  rw [Yaj i];have u:=Yaj i;go_enter Tryz.func216,Tryz.ntmps216;go_wp2;go_ret;exact ⟨rfl,(Yab _ w).alloc (Yac _) _⟩
 rw [Yat i,Yax];have u:=Yat i;by_cases g:k<=(n:Int)
 case neg=>
  rw [Yaj g];have s:=Yaj g;go_enter Tryz.func216,Tryz.ntmps216;go_wp2;go_ret;exact ⟨rfl,(Yab _ w).alloc (Yac _) _⟩
 rw [Yat g,Yax];have s:=Yat g;by_cases h:0<=at_
 case neg=>
  rw [Yaj h];have q:=Yaj h;go_enter Tryz.func216,Tryz.ntmps216;go_wp2;go_ret;exact ⟨rfl,(Yab _ w).alloc (Yac _) _⟩
 rw [Yat h,Yax];have q:=Yat h;by_cases f:at_<(n:Int)
 case neg=>
  rw [Yaj f];have t:=Yaj f;go_enter Tryz.func216,Tryz.ntmps216;go_wp2;go_ret;exact ⟨rfl,(Yab _ w).alloc (Yac _) _⟩
 rw [Yat f,Yax];have t:=Yat f;go_enter Tryz.func216,Tryz.ntmps216
 go_wp2_with fail
 have a:Below w.heap.size w (w.alloc (.cells #[.int .i64 m,.int .i64 k,.int .i64 at_,.string (S cls)] 185)):=(Yab _ w).alloc (Yac _) _;refine (l.o _).mono ?_;rintro e x ⟨rfl,j⟩;have v:=Hd (a.trans (j.mono a.size));clear a j;go_wp2;go_ret;exact ⟨rfl,v.o⟩
theorem Zlk (c:Cat) (B:Nat) (h:Option Addr) (n f:Nat) (w:World) (i:ZaA c.cls) (a:w.cell? ⟨B,5,none⟩=some (.slice h n f)) :
  Calls Tryz.prog 215 #[catV c,.pointer (some ⟨B,0,none⟩)] w (Said (Cat.ok n c) w):=by
 have d:Hid (∀ w,Calls Tryz.prog 216 #[catV c,.int .i64 (n:Nat)] w (Said (Cat.ok n c) w)):=Hd (fun w=>Zll c n w i);generalize Cat.ok n c=b at d ⊢;have k:B<w.heap.size:=World.block_lt_of_cell? w _ a;have g:∀ o:Obj,(w.alloc o).cell? ⟨B,5,none⟩=some (.slice h n f):=fun o=>((Yan (fun _=>False) w).alloc o).cell a id
 clear a;go_enter Tryz.func215,Tryz.ntmps215
 go_wp2_with fail
 refine (d.o _).mono ?_;rintro e l ⟨rfl,j⟩;clear g;go_wp2;go_ret;exact ⟨rfl,((Yab _ w).alloc (Yac _) _).trans (j.mono (by simp))⟩
theorem Zln (x:Ins) (w:World) (c:CT w) (f:ZaA x.s) :
  Calls Tryz.prog 213 #[Zjn x] w (Said x.fine w):=by
 have g:=Hd c;clear c;go_enter Tryz.func213,Tryz.ntmps213
 go_wp2_with fail
 have a:Below w.heap.size w (w.alloc (.cells #[.string (S x.op),.int .i64 x.n,.string (S x.s)] 48)):=(Yab _ w).alloc (Yac _) _;refine (ZlI x.op x.n x.s _ (g.o.keep a) f).mono ?_;rintro e i ⟨rfl,b⟩;have d:=Hd (a.trans (b.mono a.size));clear a b;go_wp2;go_ret;refine ⟨?_,d.o⟩;refine Ya5 (fun h=>Ending.returned (.bool h)) ?_;unfold Ins.fine Ins.e;rw [Ybk,beq_iff_eq,beq_iff_eq];omega
theorem ZmP {A:Nat->Prop} (m:Mth) (v:Value) (w:World) (i:MthR A w m v) :
  Calls Tryz.prog 147 #[v] w (Said m.many w):=by
 obtain ⟨_,_,_,rfl,⟨p,l,rfl⟩,⟨r,q,rfl⟩,⟨n,s,rfl⟩⟩:=Zam i;clear i;unfold Mth.many;generalize m.params.length=c;generalize m.cats.length=b;generalize m.code.length=a;obtain ⟨name,params,res,abs,loc,code,cats⟩:=m;dsimp only;by_cases j:32<c
 case pos=>
  rw [Yat j];have k:32<(c:Int):=by omega
  go_enter Tryz.func147,Tryz.ntmps147;go_wp2;go_ret;exact ⟨rfl,(Yab _ w).alloc (Yac _) _⟩
 rw [Yaj j,YaS];have k:¬ (32<(c:Int)):=by omega
 by_cases g:32<b
 case pos=>
  rw [Yat g];have f:32<(b:Int):=by omega
  go_enter Tryz.func147,Tryz.ntmps147;go_wp2;go_ret;exact ⟨rfl,(Yab _ w).alloc (Yac _) _⟩
 rw [Yaj g,YaS];have f:¬ (32<(b:Int)):=by omega
 by_cases h:200<a
 case pos=>
  rw [Yat h];have d:200<(a:Int):=by omega
  go_enter Tryz.func147,Tryz.ntmps147;go_wp2;go_ret;exact ⟨rfl,(Yab _ w).alloc (Yac _) _⟩
 rw [Yaj h,YaS];have d:¬ (200<(a:Int)):=by omega
 go_enter Tryz.func147,Tryz.ntmps147;go_wp2;go_ret;exact ⟨rfl,(Yab _ w).alloc (Yac _) _⟩
theorem Zhr {A:Nat->Prop} (x:Mth) (v:Value) (w:World) (a:MthR A w x v) :
  Calls Tryz.prog 157 #[v] w (Said x.abs w):=by
 obtain ⟨_,_,_,rfl,⟨b,g,rfl⟩,⟨d,c,rfl⟩,⟨f,h,rfl⟩⟩:=Zam a;clear a;go_enter Tryz.func157,Tryz.ntmps157;go_wp2;go_ret;exact ⟨rfl,(Yab _ w).alloc (Yac _) _⟩
theorem ZpZ {A:Nat->Prop} (x:List UInt8) (v:Value) (w:World) (a:StrR A w x v) :
  Calls Tryz.prog 152 #[v] w (Zca x w):=by
 obtain rfl:=a;go_enter Tryz.func152,Tryz.ntmps152;go_wp2;go_ret;exact ⟨rfl,Yab _ w⟩
theorem Zp0 {A:Nat->Prop} (x:Fld) (v:Value) (w:World) (a:FldR A w x v) :
  Calls Tryz.prog 154 #[v] w (Zca x.name w):=by
 obtain rfl:=a;go_enter Tryz.func154,Tryz.ntmps154;go_wp2;go_ret;exact ⟨rfl,(Yab _ w).alloc (Yac _) _⟩
theorem Zp1 {A:Nat->Prop} (x:Mth) (v:Value) (w:World) (a:MthR A w x v) :
  Calls Tryz.prog 156 #[v] w (Zca x.name w):=by
 obtain ⟨_,_,_,rfl,⟨b,g,rfl⟩,⟨d,c,rfl⟩,⟨f,h,rfl⟩⟩:=Zam a;clear a;go_enter Tryz.func156,Tryz.ntmps156;go_wp2;go_ret;exact ⟨rfl,(Yab _ w).alloc (Yac _) _⟩
end Go.Proofs.YtggcdinoflchjaaGreatDoor
namespace Go.Proofs.YtggcdinoflchjaaGreatDoor
open Go.RowKit Go.Lib
def Zbf (n c a b b3:Nat):Nat:=
 if c<128 then 1
 else if 194<=c/\c<224/\1<n/\128<=a/\a<192 then 2
 else if 224<=c/\c<240/\(1<n/\128<=a/\a<192)/\2<n/\128<=b/\b<192 then
  (if 2048<=c % 16 * 4096+a % 64 * 64+b % 64/\(c % 16 * 4096+a % 64 * 64+b % 64<55296\/57343<c % 16 * 4096+a % 64 * 64+b % 64) then 3 else 0)
 else if 240<=c/\c<245/\(1<n/\128<=a/\a<192)/\(2<n/\128<=b/\b<192)/\3<n/\128<=b3/\b3<192 then
  (if 65536<=c % 8 * 262144+a % 64 * 4096+b % 64 * 64+b3 % 64/\c % 8 * 262144+a % 64 * 4096+b % 64 * 64+b3 % 64<=1114111 then 4 else 0)
 else 0
theorem ZjU (n c a b b3:Nat) (H:128<=c) (I:a<256) (G:b<256) (J:b3<256) :
  checkN n a b b3 (firstT c % 8) (accLo (firstT c / 16)) (accHi (firstT c / 16))=if Zbf n c a b b3=0 then none else some (Zbf n c a b b3):=by
 have g:∀ w lo h,firstT c % 8=w->accLo (firstT c / 16)=lo->accHi (firstT c / 16)=h->checkN n a b b3 w lo h=(if Zbf n c a b b3=0 then none else some (Zbf n c a b b3))->
   checkN n a b b3 (firstT c % 8) (accLo (firstT c / 16)) (accHi (firstT c / 16))=if Zbf n c a b b3=0 then none else some (Zbf n c a b b3):=fun w lo h E C B x=>by rw [E,C,B];exact x
 have d:¬ c<128:=by omega
 by_cases i:c<194
 ·refine g 1 _ _ (by simp [firstT,d,i]) rfl rfl ?_;have e:Zbf n c a b b3=0:=by
   unfold Zbf;rw [Yas d,Yas (by omega),Yas (by omega),Yas (by omega)]
  rw [e];rfl
 by_cases j:c<224
 ·refine g 2 128 191 (by simp [firstT,d,i,j]) (by simp [firstT,accLo,d,i,j]) (by simp [firstT,accHi,d,i,j]) ?_;by_cases A:1<n/\128<=a/\a<192
  ·have e:Zbf n c a b b3=2:=by unfold Zbf;rw [Yas d,YaC (by omega)]
   rw [e];unfold checkN;rw [YaC rfl,Yas (by omega)];rfl
  ·have e:Zbf n c a b b3=0:=by unfold Zbf;rw [Yas d,Yas (by omega),Yas (by omega),Yas (by omega)]
   rw [e];unfold checkN;rw [YaC rfl,YaC (by omega)];rfl
 have l:∀ lo h,(2048<=c % 16 * 4096+a % 64 * 64+b % 64/\(c % 16 * 4096+a % 64 * 64+b % 64<55296\/57343<c % 16 * 4096+a % 64 * 64+b % 64)↔lo<=a/\a<=h)\/¬ (128<=a/\a<192)->128<=lo->h<=191->c<240->
   checkN n a b b3 3 lo h=(if Zbf n c a b b3=0 then none else some (Zbf n c a b b3)):=by
  intro lo h f y z D;by_cases A:(1<n/\128<=a/\a<192)/\2<n/\128<=b/\b<192
  ·by_cases t:lo<=a/\a<=h
   ·have e:Zbf n c a b b3=3:=by
     unfold Zbf;rw [Yas d,Yas (by omega),YaC (by omega),YaC];rcases f with f|f
     ·exact f.2 t
     ·omega
    rw [e];unfold checkN;rw [Yas (by decide),YaC rfl,Yas (by omega)];rfl
   ·have e:Zbf n c a b b3=0:=by
     unfold Zbf;rw [Yas d,Yas (by omega),YaC (by omega),Yas];rcases f with f|f
     ·exact fun x=>t (f.1 x)
     ·omega
    rw [e];unfold checkN;rw [Yas (by decide),YaC rfl,YaC (by omega)];rfl
  ·have e:Zbf n c a b b3=0:=by
    unfold Zbf;rw [Yas d,Yas (by omega),Yas (by omega),Yas (by omega)]
   rw [e];unfold checkN;rw [Yas (by decide),YaC rfl,YaC (by omega)];rfl
 have q:∀ lo h,(65536<=c % 8 * 262144+a % 64 * 4096+b % 64 * 64+b3 % 64/\c % 8 * 262144+a % 64 * 4096+b % 64 * 64+b3 % 64<=1114111↔lo<=a/\a<=h)\/¬ (128<=a/\a<192)->128<=lo->h<=191->240<=c->c<245->
   checkN n a b b3 4 lo h=(if Zbf n c a b b3=0 then none else some (Zbf n c a b b3)):=by
  intro lo h f y z D F;by_cases A:(1<n/\128<=a/\a<192)/\(2<n/\128<=b/\b<192)/\3<n/\128<=b3/\b3<192
  ·by_cases t:lo<=a/\a<=h
   ·have e:Zbf n c a b b3=4:=by
     unfold Zbf;rw [Yas d,Yas (by omega),Yas (by omega),YaC (by omega),YaC];rcases f with f|f
     ·exact f.2 t
     ·omega
    rw [e];unfold checkN;rw [Yas (by decide),Yas (by decide),YaC rfl,Yas (by omega)];rfl
   ·have e:Zbf n c a b b3=0:=by
     unfold Zbf;rw [Yas d,Yas (by omega),Yas (by omega),YaC (by omega),Yas];rcases f with f|f
     ·exact fun x=>t (f.1 x)
     ·omega
    rw [e];unfold checkN;rw [Yas (by decide),Yas (by decide),YaC rfl,YaC (by omega)];rfl
  ·have e:Zbf n c a b b3=0:=by
    unfold Zbf;rw [Yas d,Yas (by omega),Yas (by omega),Yas (by omega)]
   rw [e];unfold checkN;rw [Yas (by decide),Yas (by decide),YaC rfl,YaC (by omega)];rfl
 by_cases k:c=224
 ·exact g 3 160 191 (by subst k;decide) (by subst k;decide) (by subst k;decide) (l 160 191 (by omega) (by omega) (by omega) (by omega))
 by_cases m:c<237
 ·exact g 3 128 191 (by simp [firstT,d,i,j,k,m]) (by simp [firstT,accLo,d,i,j,k,m]) (by simp [firstT,accHi,d,i,j,k,m]) (l 128 191 (by omega) (by omega) (by omega) (by omega))
 by_cases p:c=237
 ·exact g 3 128 159 (by subst p;decide) (by subst p;decide) (by subst p;decide) (l 128 159 (by omega) (by omega) (by omega) (by omega))
 by_cases s:c<240
 ·exact g 3 128 191 (by simp [firstT,d,i,j,k,m,p,s]) (by simp [firstT,accLo,d,i,j,k,m,p,s]) (by simp [firstT,accHi,d,i,j,k,m,p,s]) (l 128 191 (by omega) (by omega) (by omega) (by omega))
 by_cases r:c=240
 ·exact g 4 144 191 (by subst r;decide) (by subst r;decide) (by subst r;decide) (q 144 191 (by omega) (by omega) (by omega) (by omega) (by omega))
 by_cases u:c<244
 ·exact g 4 128 191 (by simp [firstT,d,i,j,k,m,p,s,r,u]) (by simp [firstT,accLo,d,i,j,k,m,p,s,r,u]) (by simp [firstT,accHi,d,i,j,k,m,p,s,r,u]) (q 128 191 (by omega) (by omega) (by omega) (by omega) (by omega))
 by_cases v:c=244
 ·exact g 4 128 143 (by subst v;decide) (by subst v;decide) (by subst v;decide) (q 128 143 (by omega) (by omega) (by omega) (by omega) (by omega))
 ·refine g 1 _ _ (by simp [firstT,d,i,j,k,m,p,s,r,u,v]) rfl rfl ?_;have e:Zbf n c a b b3=0:=by
   unfold Zbf;rw [Yas d,Yas (by omega),Yas (by omega),Yas (by omega)]
  rw [e];rfl
def ZeT (l:List UInt8):Nat:=Zbf l.length (l.getD 0 0).toNat (l.getD 1 0).toNat (l.getD 2 0).toNat (l.getD 3 0).toNat
theorem Zf6 (l:List UInt8) (c:l ≠ []):validD l=if ZeT l=0 then false else validD (l.drop (ZeT l)):=by
 by_cases d:(l.getD 0 0).toNat<128
 ·have e:ZeT l=1:=by unfold ZeT Zbf;rw [YaC d]
  rw [e];cases l with
  | nil=>exact absurd rfl c
  | cons b t=>rw [validD_cons b t (by simpa using d)];rfl
 ·rw [validD_lead l c (by omega),ZjU _ _ _ _ _ (by omega) (UInt8.toNat_lt _) (UInt8.toNat_lt _) (UInt8.toNat_lt _)];show (match (if ZeT l=0 then none else some (ZeT l)) with|none=>false|some k=>validD (l.drop k))=_
  by_cases a:ZeT l=0
  ·rw [YaC a,YaC a]
  ·rw [Yas a,Yas a]
theorem Zn9 (l:List UInt8) (a:l ≠ []):ZeT l<=l.length:=by
 have b:0<l.length:=List.length_pos_iff.2 a;unfold ZeT Zbf
 repeat' split
 all_goals omega
end Go.Proofs.YtggcdinoflchjaaGreatDoor
namespace Go.Proofs.YtggcdinoflchjaaGreatDoor
open Go.RowKit Go.Lib
def aft (s:ByteArray) (i:Nat):Bool:=decide (i<s.size) && (decide (128<=(s.get! i).toNat) && decide ((s.get! i).toNat<192))
theorem get!_of_lt (s:ByteArray) (i:Nat) (a:i<s.size):s[i]'a=s.get! i:=(Utf8W.get!_of_lt s i a).symm
theorem ZlB (s:ByteArray) (i:Nat) (w:World) :
  Calls Tryz.prog 274 #[.string s,.int .i64 i] w fun e w'=>e=.returned (.bool (aft s i))/\w=w':=by
 unfold aft;by_cases g:i<s.size
 ·have j:(i:Int)<(s.size:Int):=by omega
  have h:=get!_of_lt s i g;obtain ⟨x,a⟩:∃ x,x=s.get! i:=⟨_,rfl⟩
  rw [←a] at h ⊢;clear a;have k:=x.toNat_lt;rw [Yat g,Yax];by_cases f:128<=x.toNat
  ·have b:(128:Int)<=(x.toNat:Int):=by omega
   rw [Yat f,Yax];by_cases d:x.toNat<192
   ·have c:(x.toNat:Int)<192:=by omega
    rw [Yat d];go_enter Tryz.func274,Tryz.ntmps274;go_wp2;go_ret;exact ⟨rfl,rfl⟩
   ·have c:decide ((x.toNat:Int)<192)=false:=by simp;omega
    rw [Yaj d];go_enter Tryz.func274,Tryz.ntmps274;go_wp2;go_ret;exact ⟨rfl,rfl⟩
  ·have b:decide ((128:Int)<=(x.toNat:Int))=false:=by simp;omega
   rw [Yaj f,YaF];go_enter Tryz.func274,Tryz.ntmps274;go_wp2;go_ret;exact ⟨rfl,rfl⟩
 ·have j:decide ((i:Int)<(s.size:Int))=false:=by simp;omega
  rw [Yaj g,YaF];go_enter Tryz.func274,Tryz.ntmps274;go_wp2;go_ret;exact ⟨rfl,rfl⟩
def ZjT (s:ByteArray):Nat:=Zbf s.size (s.get! 0).toNat (s.get! 1).toNat (s.get! 2).toNat (s.get! 3).toNat
theorem ZdL {s:ByteArray} {i:Nat} (a:i<s.size/\128<=(s.get! i).toNat/\(s.get! i).toNat<192):aft s i=true:=by simp [aft,a]
theorem Zc4 {s:ByteArray} {i:Nat} (a:¬ (i<s.size/\128<=(s.get! i).toNat/\(s.get! i).toNat<192)):aft s i=false:=by
 cases e:aft s i with
 | false=>rfl
 | true=>simp [aft] at e;exact absurd ⟨e.1,e.2.1,e.2.2⟩ a
theorem Zoa (s:ByteArray) (w:World) (N:0<s.size) :
  Calls Tryz.prog 267 #[.string s] w fun e w'=>e=.returned (.int .i64 (ZjT s))/\∃ ac,w'=w.drewN ac:=by
 have f:Hid (∀ (i:Nat) (w:World),Calls Tryz.prog 274 #[.string s,.int .i64 i] w fun e w'=>e=.returned (.bool (aft s i))/\w=w'):=fun i w=>ZlB s i w
 have aa:(0:Int)<(s.size:Int):=by omega
 have F:=get!_of_lt s 0 N;obtain ⟨R,a⟩:∃ R,R=ZjT s:=⟨_,rfl⟩
 rw [←a];unfold ZjT Zbf at a;obtain ⟨c,K⟩:∃ c,c=s.get! 0:=⟨_,rfl⟩
 rw [←K] at F a;have Z:=c.toNat_lt;clear K;by_cases k:c.toNat<128
 ·rw [YaC k] at a;subst a;have H:(c.toNat:Int)<128:=by omega
  go_enter Tryz.func267,Tryz.ntmps267;go_wp2;go_ret;exact ⟨rfl,0,rfl⟩
 rw [Yas k] at a;have H:(128:Int)<=(c.toNat:Int):=by omega
 by_cases l:194<=c.toNat/\c.toNat<224
 ·have Q:(194:Int)<=(c.toNat:Int):=by omega
  have U:(c.toNat:Int)<224:=by omega
  by_cases d:1<s.size/\128<=(s.get! 1).toNat/\(s.get! 1).toNat<192
  ·rw [YaC ⟨l.1,l.2,d⟩] at a;subst a;have j:=Hd (ZdL d);clear d k l;go_enter Tryz.func267,Tryz.ntmps267
   go_wp2_with (go_at_call 274;refine (f.o 1 _).mono ?_;rintro e g ⟨rfl,rfl⟩;rw [j.o])
   go_ret;exact ⟨rfl,0,rfl⟩
  ·rw [Yas (by omega),Yas (by omega),Yas (by omega)] at a;subst a;have j:=Hd (Zc4 d);clear d k l;go_enter Tryz.func267,Tryz.ntmps267
   go_wp2_with (go_at_call 274;refine (f.o 1 _).mono ?_;rintro e g ⟨rfl,rfl⟩;rw [j.o])
   go_ret;exact ⟨rfl,0,rfl⟩
 rw [Yas (by omega)] at a;by_cases m:224<=c.toNat/\c.toNat<240
 ·have W:(224:Int)<=(c.toNat:Int):=by omega
  have V:(c.toNat:Int)<240:=by omega
  by_cases d:1<s.size/\128<=(s.get! 1).toNat/\(s.get! 1).toNat<192
  ·have j:=Hd (ZdL d);by_cases h:2<s.size/\128<=(s.get! 2).toNat/\(s.get! 2).toNat<192
   ·have q:=Hd (ZdL h);rw [YaC ⟨m.1,m.2,d,h⟩] at a;have A:1<s.size:=d.1;have C:2<s.size:=h.1;have u:=get!_of_lt s 1 A;have v:=get!_of_lt s 2 C;have E:(1:Int)<(s.size:Int):=by omega
    have M:(2:Int)<(s.size:Int):=by omega
    obtain ⟨z,n⟩:∃ b,b=s.get! 1:=⟨_,rfl⟩
    obtain ⟨D,r⟩:∃ b,b=s.get! 2:=⟨_,rfl⟩
    rw [←n] at u a d;rw [←r] at v a h;have I:=z.toNat_lt;have L:=D.toNat_lt;have B:=Hd a;clear n r k l m a;go_enter Tryz.func267,Tryz.ntmps267
    go_wp2_with (first|(go_at_call_of 274 (Value.int IntKind.i64 1);refine (f.o 1 _).mono ?_;rintro e g ⟨rfl,rfl⟩;rw [j.o])|(go_at_call_of 274 (Value.int IntKind.i64 2);refine (f.o 2 _).mono ?_;rintro e g ⟨rfl,rfl⟩;rw [q.o]))
    go_quiet (fail)
    go_wp2;all_goals
     go_ret;exact ⟨ZgL (by rw [B.o];first|(rw [YaC (by omega)];rfl)|(rw [Yas (by omega)];rfl)),_,rfl⟩
   ·rw [Yas (by omega),Yas (by omega)] at a;subst a;have q:=Hd (Zc4 h);clear d h k l m;go_enter Tryz.func267,Tryz.ntmps267
    go_wp2_with (first|(go_at_call_of 274 (Value.int IntKind.i64 1);refine (f.o 1 _).mono ?_;rintro e g ⟨rfl,rfl⟩;rw [j.o])|(go_at_call_of 274 (Value.int IntKind.i64 2);refine (f.o 2 _).mono ?_;rintro e g ⟨rfl,rfl⟩;rw [q.o]))
    go_ret;exact ⟨rfl,0,rfl⟩
  ·rw [Yas (by omega),Yas (by omega)] at a;subst a;have j:=Hd (Zc4 d);clear d k l m;go_enter Tryz.func267,Tryz.ntmps267
   go_wp2_with (first|(go_at_call_of 274 (Value.int IntKind.i64 1);refine (f.o 1 _).mono ?_;rintro e g ⟨rfl,rfl⟩;rw [j.o]))
   go_ret;exact ⟨rfl,0,rfl⟩
 rw [Yas (by omega)] at a;by_cases p:240<=c.toNat/\c.toNat<245
 ·have P:(240:Int)<=(c.toNat:Int):=by omega
  have T:(c.toNat:Int)<245:=by omega
  by_cases d:1<s.size/\128<=(s.get! 1).toNat/\(s.get! 1).toNat<192
  ·have j:=Hd (ZdL d);by_cases h:2<s.size/\128<=(s.get! 2).toNat/\(s.get! 2).toNat<192
   ·have q:=Hd (ZdL h);by_cases t:3<s.size/\128<=(s.get! 3).toNat/\(s.get! 3).toNat<192
    ·have y:=Hd (ZdL t);rw [YaC ⟨p.1,p.2,d,h,t⟩] at a;have A:1<s.size:=d.1;have C:2<s.size:=h.1;have O:3<s.size:=t.1;have u:=get!_of_lt s 1 A;have v:=get!_of_lt s 2 C;have G:=get!_of_lt s 3 O;have E:(1:Int)<(s.size:Int):=by omega
     have M:(2:Int)<(s.size:Int):=by omega
     have Y:(3:Int)<(s.size:Int):=by omega
     obtain ⟨z,n⟩:∃ b,b=s.get! 1:=⟨_,rfl⟩
     obtain ⟨D,r⟩:∃ b,b=s.get! 2:=⟨_,rfl⟩
     obtain ⟨b3,x⟩:∃ b,b=s.get! 3:=⟨_,rfl⟩
     rw [←n] at u a d;rw [←r] at v a h;rw [←x] at G a t;have I:=z.toNat_lt;have L:=D.toNat_lt;have X:=b3.toNat_lt;have B:=Hd a;clear n r x k l m p a;go_enter Tryz.func267,Tryz.ntmps267
     go_wp2_with (first|(go_at_call_of 274 (Value.int IntKind.i64 1);refine (f.o 1 _).mono ?_;rintro e g ⟨rfl,rfl⟩;rw [j.o])|(go_at_call_of 274 (Value.int IntKind.i64 2);refine (f.o 2 _).mono ?_;rintro e g ⟨rfl,rfl⟩;rw [q.o])|(go_at_call_of 274 (Value.int IntKind.i64 3);refine (f.o 3 _).mono ?_;rintro e g ⟨rfl,rfl⟩;rw [y.o]))
     go_quiet (fail)
     go_wp2;all_goals
      go_ret;exact ⟨ZgL (by rw [B.o];first|(rw [YaC (by omega)];rfl)|(rw [Yas (by omega)];rfl)),_,rfl⟩
    ·rw [Yas (by omega)] at a;subst a;have y:=Hd (Zc4 t);clear d h t k l m p;go_enter Tryz.func267,Tryz.ntmps267
     go_wp2_with (first|(go_at_call_of 274 (Value.int IntKind.i64 1);refine (f.o 1 _).mono ?_;rintro e g ⟨rfl,rfl⟩;rw [j.o])|(go_at_call_of 274 (Value.int IntKind.i64 2);refine (f.o 2 _).mono ?_;rintro e g ⟨rfl,rfl⟩;rw [q.o])|(go_at_call_of 274 (Value.int IntKind.i64 3);refine (f.o 3 _).mono ?_;rintro e g ⟨rfl,rfl⟩;rw [y.o]))
     go_ret;exact ⟨rfl,0,rfl⟩
   ·rw [Yas (by omega)] at a;subst a;have q:=Hd (Zc4 h);clear d h k l m p;go_enter Tryz.func267,Tryz.ntmps267
    go_wp2_with (first|(go_at_call_of 274 (Value.int IntKind.i64 1);refine (f.o 1 _).mono ?_;rintro e g ⟨rfl,rfl⟩;rw [j.o])|(go_at_call_of 274 (Value.int IntKind.i64 2);refine (f.o 2 _).mono ?_;rintro e g ⟨rfl,rfl⟩;rw [q.o]))
    go_ret;exact ⟨rfl,0,rfl⟩
  ·rw [Yas (by omega)] at a;subst a;have j:=Hd (Zc4 d);clear d k l m p;go_enter Tryz.func267,Tryz.ntmps267
   go_wp2_with (first|(go_at_call_of 274 (Value.int IntKind.i64 1);refine (f.o 1 _).mono ?_;rintro e g ⟨rfl,rfl⟩;rw [j.o]))
   go_ret;exact ⟨rfl,0,rfl⟩
 ·rw [Yas (by omega)] at a;subst a;by_cases ab:c.toNat<194
  ·have J:(c.toNat:Int)<194:=by omega
   clear k l m p;go_enter Tryz.func267,Tryz.ntmps267;go_wp2;go_ret;exact ⟨rfl,0,rfl⟩
  ·have J:(245:Int)<=(c.toNat:Int):=by omega
   clear k l m p;go_enter Tryz.func267,Tryz.ntmps267;go_wp2;go_ret;exact ⟨rfl,0,rfl⟩
