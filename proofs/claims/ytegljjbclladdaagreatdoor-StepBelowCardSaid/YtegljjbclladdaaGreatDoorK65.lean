/- laws -/
import Derived.Test.YtegljjbclladdaaGreatDoorK35
import Derived.Test.YtegljjbclladdaaGreatDoorK64
set_option maxRecDepth 100000
set_option maxHeartbeats 16000000
namespace Go.Proofs.YtegljjbclladdaaGreatDoor
open Go.RowKit Proofs.Tryz
theorem ZiF:givenL.length=8:=rfl
theorem ZjQ (cs:List Cls)(k:Nat):(Zav cs k).map Ent.cls=givenL++cs.take k:=by
 unfold Zav;rw[Ya9,Zg8,Yb1]
 congr 1
 conv=>rhs;rw[←List.map_id (cs.take k)]
 rfl
theorem ZqU {cs:List Cls}{k:Nat}{c:Cls}(f:cs[k]?=some c):Zba (allR cs) c.name=some (8+k)↔Zad (Zav cs k) c.name=none:=by
 obtain⟨i,a⟩:=Yag.1 f;have g:allR cs=(givenL++cs.take k)++(c::cs.drop (k+1)):=by
  unfold allR;rw[YaY]
  congr 1
  have b:=Ya5 k cs;rw[YbJ i,a]at b;exact b.symm
 have h:Zad (Zav cs k) c.name=Zba (givenL++cs.take k) c.name:=by rw[Zd1,ZjQ]
 have j:(givenL++cs.take k).length=8+k:=by rw[Yal,ZiF,YaA,Ybe (by omega)]
 rw[g,h];unfold Zba;rw[YcA];cases b:(givenL++cs.take k).findIdx? (fun d=>d.name==c.name)with
 |none=>simp[List.findIdx?_cons,j]
 |some m=>
  have l:=(YaX.1 b).1;simp;omega
theorem Zjz {cs:List Cls}{b:Nat}{d:Cls}(c:(allR cs)[b]?=some d):ZcB (Zar cs) b=d.itf/\ZfV (Zar cs) b=d.fin:=by
 rw[←Zcs,Zcj cs,Yav]at c;obtain⟨e,a,rfl⟩:=YaO.1 c;exact⟨ZeL a,Zhs a⟩
def upC (cs:List Cls)(c:Cls):Nat:=match upE (Zar cs) c.sup with|none=>61|some _=>if ZaH (Zar cs) c.like=false then 62 else 0
theorem Zrx {cs:List Cls}{c:Cls}(a:upC cs c=0):(upE (Zar cs) c.sup).isSome=true/\ZaH (Zar cs) c.like=true:=by
 unfold upC at a;cases b:upE (Zar cs) c.sup with
 |none=>rw[b]at a;cases a
 |some f=>
  rw[b]at a;dsimp only at a;cases d:ZaH (Zar cs) c.like with
  |true=>exact⟨rfl,rfl⟩
  |false=>rw[d,Yay rfl]at a;cases a
theorem ZsP {cs:List Cls}{c:Cls}(a:upC cs c≠0):upC cs c=61/\upE (Zar cs) c.sup=none\/upC cs c=62/\(upE (Zar cs) c.sup).isSome=true/\ZaH (Zar cs) c.like=false:=by
 unfold upC at a⊢;cases b:upE (Zar cs) c.sup with
 |none=>exact .inl ⟨rfl,rfl⟩
 |some f=>
  rw[b]at a;dsimp only at a⊢;cases d:ZaH (Zar cs) c.like with
  |true=>rw[d,Yar (by decide)]at a;exact absurd rfl a
  |false=>exact .inr ⟨Yay rfl,rfl,rfl⟩
theorem Ztr {cs:List Cls}{c:Cls}(b:Zba (allR cs) c.sup=none):upC cs c=61:=by
 rw[Zco]at b;have a:upE (Zar cs) c.sup=none:=by unfold upE;rw[b]
 unfold upC;rw[a]
theorem ZsQ {cs:List Cls}{c d:Cls}{a:Nat}(j:Zba (allR cs) c.sup=some a)(h:(allR cs)[a]?=some d)(b:d.itf=true\/d.fin=true):upC cs c=61:=by
 obtain⟨f,i⟩:=Zjz h;rw[Zco]at j;have g:upE (Zar cs) c.sup=none:=by
  unfold upE;rw[j];show(if(ZcB (Zar cs) a || ZfV (Zar cs) a)=true then none else some a)=none;rw[f,i,Yay (by rcases b with e|e<;>rw[e]<;>simp)]
 unfold upC;rw[g]
theorem Zts {cs:List Cls}{c d:Cls}{a:Nat}(k:Zba (allR cs) c.sup=some a)(g:(allR cs)[a]?=some d)(h:d.itf=false)(j:d.fin=false):upC cs c=if ZaH (Zar cs) c.like=false then 62 else 0:=by
 obtain⟨b,i⟩:=Zjz g;rw[Zco]at k;have f:upE (Zar cs) c.sup=some a:=by
  unfold upE;rw[k];show(if(ZcB (Zar cs) a || ZfV (Zar cs) a)=true then none else some a)=some a;rw[b,i,h,j];rfl
 unfold upC;rw[f]
def likB (cs:List Cls)(n:List UInt8):Bool:=(Zcp (Zar cs) n).isSome
theorem Zsl {cs:List Cls}{n:List UInt8}(a:Zba (allR cs) n=none):likB cs n=false:=by
 rw[Zco]at a;unfold likB Zcp;rw[a];rfl
theorem Zsk {cs:List Cls}{n:List UInt8}{d:Cls}{f:Nat}(c:Zba (allR cs) n=some f)(a:(allR cs)[f]?=some d):likB cs n=d.itf:=by
 obtain⟨b,_⟩:=Zjz a;rw[Zco]at c;unfold likB Zcp;rw[c];dsimp only;rw[b];cases d.itf<;>rfl
theorem Zf5 (cs:List Cls)(l:List (List UInt8)):ZaH (Zar cs) l=l.all (likB cs):=rfl
theorem ZgQ {L:List Cls}{n:List UInt8}{f:Nat}(c:Zba L n=some f):∃d,L[f]?=some d/\d.name=n:=by
 unfold Zba at c;obtain⟨a,b,_⟩:=YaX.1 c;exact⟨_,Yaa a,by simpa using b⟩
theorem ZkZ {cs:List Cls}{x:Nat}(a:x<8):¬Over (newT cs) x x:=by
 have b:∀i,i<8->∀d∈parE startL i,d<i:=by decide
 have up:∀ {x j:Nat},Up (newT cs) x j->x<8->j<=x:=by
  intro x j k;induction k with
  |refl=>intro _;exact Yad _
  |step c _ h=>
   intro a;rw[ZcJ a]at c;have:=b _ a _ c;have:=h (by omega);omega
 rintro⟨d,f,g⟩;rw[ZcJ a]at f;have c:=b _ a _ f;have:=up g (by omega);omega
theorem Zn7 {l:List Bool}{k:Nat}(h:l[k]?=some true)(c:∀b,b<k->l.getD b false=false):firstT l=(k:Nat):=by
 obtain⟨a,f⟩:=Yag.1 h;have d:l.findIdx id=k:=by
  refine(List.findIdx_eq a).2 ⟨f,fun b g=>?_⟩;have:=c b g;rw[Yap,Yaa (by omega)]at this;simpa using this
 unfold firstT;rw[d,Yay a]
theorem ZjU {l:List Bool}(f:∀d,d<l.length->l.getD d false=false):firstT l<0:=by
 unfold firstT;rw[Yar]
 ·decide
 ·intro b;have c:id (l[l.findIdx id]'b)=true:=YbY;have a:=f _ b;rw[Yap,Yaa b]at a;simp at a c;rw[c]at a;cases a
theorem Lined.flags {cs:List Cls}(b:Lined cs):(ZaI (newT cs) (newT cs).length).loop.length=(newT cs).length/\∀x,x<(newT cs).length->((ZaI (newT cs) (newT cs).length).loop.getD x false=true↔Over (newT cs) x x):=
 Zd0 (by have:=b.len;rw[ZaX];omega) (fun c d a=>b.par c d a) b.self
theorem Lined.loop_bad {cs:List Cls}(p:Lined cs){k:Nat}(n:k<cs.length)(h:Over (newT cs) (8+k) (8+k))(g:∀a,a<k->¬Over (newT cs) (8+a) (8+a)) :
  0<=firstT (ZaI (newT cs) (newT cs).length).loop/\((k:Nat):Int)=firstT (ZaI (newT cs) (newT cs).length).loop-8:=by
 obtain⟨l,d⟩:=p.flags;have j:=ZaX cs;have b:=(d (8+k) (by omega)).2 h;rw[Zn7 (k:=8+k)]
 ·omega
 ·rw[Yap,Yaa (by omega)]at b;rw[Yaa (by omega)];simpa using b
 ·intro a m;refine Zck (fun i=>?_);have c:=(d a (by omega)).1 i;rcases YaC a 8 with f|f
  ·exact ZkZ f c
  ·exact g (a-8) (by omega) (by rw[show 8+(a-8)=a by omega];exact c)
theorem Lined.loop_none {cs:List Cls}(k:Lined cs)(d:∀a,a<cs.length->¬Over (newT cs) (8+a) (8+a)):firstT (ZaI (newT cs) (newT cs).length).loop<0:=by
 obtain⟨i,f⟩:=k.flags;have h:=ZaX cs;refine ZjU (fun a j=>Zck (fun g=>?_));have b:=(f a (by omega)).1 g;rcases YaC a 8 with c|c
 ·exact ZkZ c b
 ·exact d (a-8) (by omega) (by rw[show 8+(a-8)=a by omega];exact b)
theorem Lined.wise0 {cs:List Cls}(b:Lined cs)(c:firstT (ZaI (newT cs) (newT cs).length).loop<0):Wise (newT cs):=by
 have a:Acyc (newT cs):=Ze3 b.flags c;exact b.wise (b.shape a) a b.goodT
theorem Lined.order_at {cs:List Cls}(b:Lined cs)(a:firstT (ZaI (newT cs) (newT cs).length).loop<0)(k:Nat):(Zca (newT cs) (newT cs).length)[8+k]?=(Zcx (newT cs))[k]?:=by
 rw[b.order (Ze3 b.flags a),YaJ (by simp)];simp
theorem Lined.chk_bad {cs:List Cls}(h:Lined cs)(d:firstT (ZaI (newT cs) (newT cs).length).loop<0){k x:Nat}(j:(Zcx (newT cs))[k]?=some x)(l:chkT (newT cs) x≠0)(i:∀a g,a<k->(Zcx (newT cs))[a]?=some g->chkT (newT cs) g=0) :
  ∃(k b:Nat),(Zca (newT cs) (newT cs).length)[k]?=some b/\(x:Int)-8=(b:Int)-8/\chkT (newT cs) x=chkT (newT cs) b/\chkT (newT cs) b≠0/\∀a g,a<k->(Zca (newT cs) (newT cs).length)[a]?=some g->chkT (newT cs) g=0:=by
 refine⟨8+k,x,by rw[h.order_at d];exact j,rfl,rfl,l,fun a g m f=>?_⟩;rcases YaC a 8 with c|c
 ·rw[h.order (Ze3 h.flags d),YaR (by simpa using c),Ybl c]at f;rw[←Yac f];exact ZfI (h.wise0 d) c
 ·rw[show a=8+(a-8)by omega,h.order_at d]at f;exact i (a-8) g (by omega) f
theorem Lined.ok {cs:List Cls}(d:Lined cs)(b:firstT (ZaI (newT cs) (newT cs).length).loop<0)(f:∀g∈Zcx (newT cs),chkT (newT cs) g=0):NewOk cs:=
 ⟨d,b,fun x c=>by
  rw[d.order (Ze3 d.flags b)]at c;rcases Yaq.1 c with a|a
  ·exact ZfI (d.wise0 b) (YbM.1 a)
  ·exact f x a⟩
theorem Lined.anc {cs:List Cls}(r:Lined cs)(n:firstT (ZaI (newT cs) (newT cs).length).loop<0){k x:Nat}(p:(Zcx (newT cs))[k]?=some x)(j:x<(newT cs).length)(m:∀f q,f<k->(Zcx (newT cs))[f]?=some q->chkT (newT cs) q=0):∀d∈Zan (newT cs) (upAt (newT cs) x),chkT (newT cs) d=0:=fun d b=>by
 have W:=r.wise0 n;have l:Over (newT cs) x d:=by
  cases a:upAt (newT cs) x with
  |none=>rw[a,Zbi]at b;cases b
  |some f=>
   rw[a]at b;have h:=Yaa j;rw[Zcw h]at a;exact⟨f,ZbQ h a,W.line_up f (W.upj x _ f h a) d b⟩
 rcases Zqm (ZmM W _ (Yad _)) k x p d l with g|g
 ·exact ZfI W g
 ·obtain⟨f,c⟩:=Ya4.1 g;rw[YbQ]at c;split at c
  ·rename_i i;exact m f d i c
  ·cases c
theorem ZmX {A:Nat->Prop}(cs:List Cls)(J:Lined cs)(W:Wise (newT cs))(sv:Value)(n f:List UInt8)(w:World)(I:Src 8 ClsR A w sv (allR cs)) :
  Calls prog 95 #[sv,.string (S n),.string (S f)] w (Zef (Zbc (newT cs) n f) w):=by
 have t:=W.sh.line (Zad (newT cs) n) (fun i V=>ZaV V);have r:(Zan (newT cs) (Zad (newT cs) n)).length<=10000:=by
  have F:=ZeO (newT cs) (newT cs).length (Zad (newT cs) n);have ai:=ZaX cs;have ad:=J.len;unfold Zan;omega
 have a:=Hd (Zkl cs J W sv (Zan (newT cs) (Zad (newT cs) n)) n w t r I);have j:(ZaZ (newT cs) (Zan (newT cs) (Zad (newT cs) n))).length<=9223372036854775807:=by
  have:=ZeG W.sh.fl (Zan (newT cs) (Zad (newT cs) n));omega
 obtain⟨ah,ae,rfl⟩:=I.shape;unfold ZfB at a;unfold Zef Zbc;show Calls _ _ _ _ (fun e w'=>e=.returned (.int .i64 (idxV ((ZaZ (newT cs) (Zan (newT cs) (Zad (newT cs) n))).findIdx? (fun x=>x.name==f))))/\_);generalize ZaZ (newT cs) (Zan (newT cs) (Zad (newT cs) n))=d at a j⊢;obtain⟨m,N⟩:∃m,m=(allR cs).length:=⟨_,rfl⟩
 rw[←N]at a⊢;obtain⟨H,E⟩:∃H,H=d.length:=⟨_,rfl⟩
 have D:=Hd E;rw[←E]at j;clear I t r J W N E;go_enter func95,ntmps95
 go_wp2_with fail;with_reducible refine a.o.mono ?_
 rintro e O⟨v,rfl,B,F⟩;have P:=Hd (B.src FldR.st);obtain⟨ac,fc,rfl⟩:=B.shape;have u:=Hd F;rw[←D.o]at P⊢;clear B F a;go_wp2;go_loopw [8] (fun K wr=>∃k:Nat,k<=H/\K=.int .i64 k/\(d.take k).any (fun x=>x.name==f)=false/\Below O.heap.size O wr) (fun K _=>H-(intOf K).toNat)
 case atStart=>exact⟨0,Yao _,rfl,by simp,Yab _ _⟩
 case round=>
  obtain⟨k,ag,rfl,z,l⟩:=hrel;have g:=Hd z;have L:=Hd l;have s:=Hd (u.o.trans (l.mono u.o.size));clear z l;by_cases R:k<H
  ·obtain⟨x,G⟩:∃x,d[k]?=some x:=⟨_,Yaa (by rw[←D.o];exact R)⟩
   obtain⟨b,o,v,rfl,U,_,y⟩:=Src.elem (FldR.st.below P.o L.o) k x G;obtain rfl:=U;have Q:wr.cell? ⟨b,o+k*3,none⟩=some (.string (S x.name)):=y 0 _ rfl;have Z:(0:Int)<=(k:Int):=by omega
   have ab:(k:Int)<(H:Int):=by omega
   have M:=Zaf x.name;have af:=Zaf f;have p:=Hd G;clear y G;by_cases h:x.name=f
   ·have C:=Hd (Zhu p.o g.o (by rw[h];exact Ybi _));have q:(x.name==f)=true:=by rw[h];exact Ybi _
    generalize x.name=X at Q M q;clear h p;go_wp2;go_ret;exact⟨by rw[C.o];rfl,s.o⟩
   ·have q:(x.name==f)=false:=Yah.2 h;have T:Hid ((d.take (k+1)).any (fun c:Fld=>c.name==f)=false):=Hd (by rw[Zap (fun c:Fld=>c.name==f) d k x p.o,g.o,YaV];exact q);generalize x.name=X at Q M q;clear h p;go_wp2;go_roundw
    case rel=>exact⟨k+1,by omega,by go_num,T.o,L.o⟩
    case measure=>simp[intOf];omega
  ·obtain rfl:k=H:=by omega
   have C:Hid (d.findIdx? (fun x=>x.name==f)=none):=Hd (by
    have aa:=g.o;rw[D.o,YaE]at aa;rw[YbK];intro c Y;have:=YaW.1 aa c Y;simpa using this)
   go_wp2;go_ret;exact⟨by rw[C.o];rfl,s.o⟩
theorem Zkp {A A':Nat->Prop}(cs:List Cls)(aU:cs.length<=1000)(sv v:Value)(c:Cls)(w:World)(P:Src 8 ClsR A w sv (allR cs))(E:ClsR A' w c v)(av:c.like.length<=1000) :
  Calls prog 33 #[sv,v] w (fun e w'=>e=.returned (.int .i64 ((upC cs c:Nat):Int))/\Below w.heap.size w w'):=by
 obtain⟨aZ,a0,aY,rfl,Q,au,am⟩:=E;obtain⟨lo,T,rfl⟩:=Q.shape;obtain⟨ae,fc,rfl⟩:=au.shape;obtain⟨ag,ad,rfl⟩:=am.shape;obtain⟨B,ai⟩:∃B,B=c.like.length:=⟨_,rfl⟩
 rw[←ai]at Q av⊢;have ay:=Hd ai;have ah:Hid (∀x V,Below w.heap.size w V->Calls prog 32 #[sv,.string (S x)] V (fun e w'=>e=.returned (.int .i64 (idxV (Zba (allR cs) x)))/\Below V.heap.size V w')):=Hd (fun x V aH=>ZeU (allR cs) sv x V (ClsR.st.below P aH) (by rw[Zc5];omega));have aa:=Hd P;obtain⟨a3,aX,rfl⟩:=P.shape;obtain⟨m,L⟩:∃m,m=(allR cs).length:=⟨_,rfl⟩
 have aA:=Hd L;rw[←L]at ah aa⊢;have F:Below w.heap.size w (w.alloc (.cells #[.string (S c.name),.string (S c.sup),.slice lo B T,.bool c.itf,.bool c.abs,.bool c.fin,.slice ae c.flds.length fc,.slice ag c.mths.length ad] 70)):=Zaa (Yab _ _) _;have J:=Hd (Box.new w #[.string (S c.name),.string (S c.sup),.slice lo B T,.bool c.itf,.bool c.abs,.bool c.fin,.slice ae c.flds.length fc,.slice ag c.mths.length ad] 70);have H:=Hd (StrR.st.below Q F);have p:=Hd F;clear Q au am F ai P L;go_enter func33,ntmps33
 go_upto_region 1 with fail;obtain⟨R,X⟩:∃R,R=w.heap.size:=⟨_,rfl⟩
 generalize aN:w.alloc (.cells #[.string (S c.name),.string (S c.sup),.slice lo B T,.bool c.itf,.bool c.abs,.bool c.fin,.slice ae c.flds.length fc,.slice ag c.mths.length ad] 70)=aw at J H p⊢;rw[←X]at J⊢;have aS:aw.cell? ⟨R,1,none⟩=some (.string (S c.sup)):=J.o.cell 1 rfl;clear aN X;go_wp2_with fail;with_reducible refine(ah.o c.sup aw p.o).mono ?_
 rintro e N⟨rfl,j⟩;have C:=Hd (p.o.trans (j.mono p.o.size));have az:=Hd (J.o.below j);have Z:=Hd (StrR.st.below H.o j);clear j aS J H p;cases b:Zba (allR cs) c.sup with
 |none=>
  have i:=Hd (Ztr (c:=c) b);have f:idxV none=(-1:Int):=rfl;rw[f];clear b f;go_wp2;go_ret;exact⟨by rw[i.o];rfl,C.o⟩
 |some O=>
  obtain⟨d,G,_⟩:=ZgQ b;have K:O<(allR cs).length:=(Yag.1 G).1;obtain⟨ac,al,v,rfl,E,_,a⟩:=Src.elem (ClsR.st.below aa.o C.o) O d G;obtain⟨_,_,_,rfl,_⟩:=E;have aj:N.cell? ⟨ac,al+O*8+3,none⟩=some (.bool d.itf):=a 3 _ rfl;have aM:N.cell? ⟨ac,al+O*8+5,none⟩=some (.bool d.fin):=a 5 _ rfl;have f:idxV (some O)=(O:Int):=rfl;have aD:(0:Int)<=(O:Int):=by omega
  have aC:(O:Int)<(m:Int):=by have:=aA.o;omega
  have aE:decide ((O:Int)<0)=false:=by simp
  rw[f];have g:=Hd (fun j=>ZsQ (c:=c) b G j);have l:=Hd (fun aF aO=>Zts (c:=c) b G aF aO);clear b G K a f;generalize d.itf=af at aj g l;generalize d.fin=aK at aM g l;cases af with
  |true=>
   have i:=Hd (g.o (.inl rfl));clear g l;go_wp2;go_ret;exact⟨by rw[i.o];rfl,C.o⟩
  |false=>
   cases aK with
   |true=>
    have i:=Hd (g.o (.inr rfl));clear g l;go_wp2;go_ret;exact⟨by rw[i.o];rfl,C.o⟩
   |false=>
    have i:=Hd (l.o rfl rfl);clear g l;go_wp2;go_loopw [6] (fun ak wr=>∃k:Nat,k<=B/\ak=.int .i64 k/\(c.like.take k).all (likB cs)=true/\Below N.heap.size N wr) (fun ak _=>B-(intOf ak).toNat)
    case atStart=>exact⟨0,Yao _,rfl,by simp,Yab _ _⟩
    case round=>
     obtain⟨k,a1,rfl,M,t⟩:=hrel;have r:=Hd M;have Y:=Hd t;have s:=Hd (C.o.trans (t.mono C.o.size));have aL:wr.cell? ⟨R,2,none⟩=some (.slice lo B T):=(az.o.below t).cell 2 rfl;clear M t;by_cases ap:k<B
     ·obtain⟨x,U⟩:∃x,c.like[k]?=some x:=⟨_,Yaa (by rw[←ay.o];exact ap)⟩
      obtain⟨aG,aI,u,rfl,aQ,_,a⟩:=Src.elem (StrR.st.below Z.o Y.o) k x U;obtain rfl:=aQ;have aB:wr.cell? ⟨aG,aI+k,none⟩=some (.string (S x)):=by have B:=a 0 _ rfl;rw[YaH]at B;exact B
      have aW:(0:Int)<=(k:Int):=by omega
      have aV:(k:Int)<(B:Int):=by omega
      have z:Hid ((c.like.take (k+1)).all (likB cs)=likB cs x):=Hd (by
       rw[YaK,U];simp[r.o])
      have h:Hid (likB cs x=false->ZaH (Zar cs) c.like=false):=Hd (fun ao=>by
       rw[Zf5];refine Zck (fun aR=>?_);rw[YaF.1 aR x (Yaf U)]at ao;cases ao)
      clear a U r;go_wp2_with fail;with_reducible refine(ah.o x wr s.o).mono ?_
      rintro e aP⟨rfl,j⟩;have aT:=Hd (Y.o.trans (j.mono Y.o.size));have I:=Hd (s.o.trans (j.mono s.o.size));clear j aL aB;cases b:Zba (allR cs) x with
      |none=>
       have q:Hid (upC cs c=62):=Hd (by rw[i.o,Yay (h.o (Zsl b))]);have f:idxV none=(-1:Int):=rfl;rw[f];clear b f z h i;go_wp2;go_ret;exact⟨by rw[q.o];rfl,I.o⟩
      |some n=>
       obtain⟨ab,y,_⟩:=ZgQ b;have K:n<(allR cs).length:=(Yag.1 y).1;obtain⟨b4,a2,a4,W,E,_,a⟩:=Src.elem (ClsR.st.below aa.o I.o) n ab y;simp only[Ya1,Ybz,and_true]at W;obtain⟨ax,aq⟩:=W;subst ax aq;obtain⟨_,_,_,rfl,_⟩:=E;have aj:aP.cell? ⟨ac,al+n*8+3,none⟩=some (.bool ab.itf):=a 3 _ rfl;have f:idxV (some n)=(n:Int):=rfl;have aD:(0:Int)<=(n:Int):=by omega
       have aC:(n:Int)<(m:Int):=by have:=aA.o;omega
       have aE:decide ((n:Int)<0)=false:=by simp
       rw[f];have D:=Hd (Zsk b y);clear b y K a f;generalize ab.itf=af at aj D;cases af with
       |false=>
        have q:Hid (upC cs c=62):=Hd (by rw[i.o,Yay (h.o D.o)]);clear z h i;go_wp2;go_ret;exact⟨by rw[q.o];rfl,I.o⟩
       |true=>
        have ar:Hid ((c.like.take (k+1)).all (likB cs)=true):=Hd (by rw[z.o];exact D.o);have aJ:=Hd aT.o;clear z h;go_wp2;go_roundw
        case rel=>exact⟨k+1,by omega,by go_num,ar.o,aJ.o⟩
        case measure=>simp[intOf];omega
     ·obtain rfl:k=B:=by omega
      have q:Hid (upC cs c=0):=Hd (by
       have ao:=r.o;rw[ay.o,YaE]at ao;rw[i.o,Zf5,ao];rfl)
      go_wp2;go_ret;exact⟨by rw[q.o];rfl,s.o⟩
theorem Lined.clsSmall {cs:List Cls}(u:Lined cs)(i:Nat)(e:Ent)(r:(newT cs)[i]?=some e):e.cls.Small:=by
 rcases Zbn r with⟨l,a⟩|⟨l,c,a,rfl⟩
 ·have n:startL.all (fun e=>decide (e.cls.name.length<=32/\e.cls.sup.length<=32/\e.cls.like=[]/\e.cls.flds.length<=32/\e.cls.flds.all (fun f=>decide (f.name.length<=32/\f.kind.length<=32))=true)&&e.cls.mths.isEmpty)=true:=by decide
  have h:=YaF.1 n e (Yaf a);rw[Yaw,List.isEmpty_iff]at h;obtain⟨p,j⟩:=h;obtain⟨s,t,g,v,k⟩:=of_decide_eq_true p;refine⟨by omega,by omega,by rw[g];simp,by omega,by rw[j];simp,fun x d=>?_,fun f q=>?_,fun m b=>?_⟩
  ·rw[g]at d;cases d
  ·have:=of_decide_eq_true (YaF.1 k f q);omega
  ·rw[j]at b;cases b
 ·exact(u.good c (Yaf a)).small
theorem Lined.few {cs:List Cls}(b:Lined cs)(i:Nat):(Zal (newT cs) i).length<=32:=by
 unfold Zal;cases a:(newT cs)[i]? with
 |none=>simp
 |some e=>exact(b.small i e a).2.2.1
theorem ZqM {c:Cls}(h:c.flds.length<=32)(i:c.mths.length<=32)(d:∀m∈c.mths,m.params.length<=32):(Zc9 c).length<=2000:=by
 have a:∀l:List Mth,(∀m∈l,m.params.length<=32)->(l.flatMap ZbJ).length<=l.length*33:=by
  intro l;induction l with
  |nil=>intro _;simp
  |cons m l f=>
   intro g;have n:=f (fun x b=>g x (Yau _ b));have k:=g m Yam;rw[Yb6,Yal,YaI];have j:(ZbJ m).length<=33:=by
    unfold ZbJ;rw[Yal];split<;>simp<;>omega
   omega
 unfold Zc9;rw[Yal,YaB];have:=a c.mths d;omega
theorem ZoF {c:Cls}(j:c.Small):∀s∈Zc9 c,s.length<=281474976710656:=by
 intro s g;unfold Zc9 at g;rcases Yaq.1 g with b|b
 ·obtain⟨f,i,rfl⟩:=Ya2.1 b;exact(j.flds f i).2
 ·obtain⟨m,d,h⟩:=YbD.1 b;unfold ZbJ at h;rcases Yaq.1 h with a|a
  ·exact(j.mths m d).params s a
  ·split at a
   ·cases a
   ·rw[Yax.1 a];exact(j.mths m d).res
theorem Lined.clash {cs:List Cls}(c:Lined cs){i:Nat}{en:Ent}(a:(newT cs)[i]?=some en):Zej (newT cs) i=en.cls.flds.any fun f=>(Zbc (newT cs) en.cls.sup f.name).isSome:=by
 rw[ZnA];have b:Za6 (newT cs) i=en.cls.flds:=by unfold Za6;rw[a]
 rw[b,Zcw a]
 congr 1
 funext f
 unfold Zbc Zei;rw[List.findIdx?_isSome,c.sup a]
structure ChkD (cs:List Cls) (i:Nat) (c:Cls):Prop where
 a:(c.flds.any fun f=>(Zbc (newT cs) c.sup f.name).isSome)=true->chkT (newT cs) i=64
 b:(c.flds.any fun f=>(Zbc (newT cs) c.sup f.name).isSome)=false->(Zc9 c).all (Zb6 (newT cs))=false->chkT (newT cs) i=65
 c:(c.flds.any fun f=>(Zbc (newT cs) c.sup f.name).isSome)=false->(Zc9 c).all (Zb6 (newT cs))=true->∀R:Nat->Bool,(∀k,k<(newT cs).length->(R k=true↔Over (newT cs) i k))->
  (Ze2 (Zcn (newT cs) i R (newT cs).length)->chkT (newT cs) i=66)/\
  (¬Ze2 (Zcn (newT cs) i R (newT cs).length)->(c.abs=false/\∃m∈Zcn (newT cs) i R (newT cs).length,absM (newT cs) i m.name=true)->chkT (newT cs) i=67)/\
  (¬Ze2 (Zcn (newT cs) i R (newT cs).length)->(c.abs=true\/∀m∈Zcn (newT cs) i R (newT cs).length,absM (newT cs) i m.name=false)->chkT (newT cs) i=0)
theorem Lined.chkD {cs:List Cls}(w:Lined cs)(W:Wise (newT cs)){i:Nat}{en:Ent}(b:(newT cs)[i]?=some en)(c:∀d∈Zan (newT cs) (upAt (newT cs) i),chkT (newT cs) d=0):ChkD cs i en.cls:=by
 have v:i<(newT cs).length:=(Yag.1 b).1;have f:=w.clash b;have n:ZcQ (newT cs) (ZfJ (newT cs) i)=(Zc9 en.cls).all (Zb6 (newT cs)):=by rw[Zhl b];exact ZlY _ _
 refine⟨fun t=>?_,fun l j=>?_,fun l j R r=>?_⟩
 ·unfold chkT;rw[f,t,Yay rfl]
 ·unfold chkT;rw[f,l,n,j,Yar (by decide),Yay rfl]
 ·obtain⟨k,g⟩:=W.chk_pair v r c;have s:Zcz (newT cs) i=en.cls.abs:=Zhg b;rw[s]at g;have e:chkT (newT cs) i=if ZaN (newT cs) i=true then 66 else if Zb9 (newT cs) i=true then 67 else 0:=by
   unfold chkT;rw[f,l,n,j,Yar (by decide),Yar (by decide)]
  rw[e];refine⟨fun t=>by rw[Yay (k.2 t)],fun h a=>?_,fun h a=>?_⟩
  ·rw[Yar (fun x=>h (k.1 x)),Yay (g.2 a)]
  ·rw[Yar (fun x=>h (k.1 x)),Yar];intro x;obtain⟨q,m,u,p⟩:=g.1 x;rcases a with a|a
   ·rw[a]at q;cases q
   ·rw[a m u]at p;cases p
structure MV where
 val:Value
 sz:val.cells.size=7
 one:∀u∈val.cells.toList,u.oneCell'=true
abbrev mvV (x:MV):Value:=x.val
abbrev MVR:Zao MV:=Flat mvV
theorem MVRst:Stays MVR:=Flat.stays _
theorem ZoT {A:Nat->Prop}{w:World}{m:Mth}{v:Value}(g:MthR A w m v):v.cells.size=7/\∀u∈v.cells.toList,u.oneCell'=true:=by
 obtain⟨_,_,_,rfl,⟨lo,d,rfl⟩,⟨b,fc,rfl⟩,⟨f,c,rfl⟩⟩:=Zaj g;refine⟨rfl,fun u a=>?_⟩;simp[Value.cells]at a;rcases a with rfl|rfl|rfl|rfl|rfl|rfl|rfl<;>rfl
structure MVals (A:Nat->Prop) (w:World) (ms:List Mth) (vs:List MV):Prop where
 len:vs.length=ms.length
 each:∀(k:Nat) (m:Mth),ms[k]?=some m->∃u:MV,vs[k]?=some u/\MthR A w m (mvV u)
theorem MVals.nil {A:Nat->Prop}{w:World}:MVals A w [] []:=⟨rfl,fun k m a=>by simp at a⟩
theorem MVals.app {A:Nat->Prop}{w:World}{d h:List Mth}{i g:List MV}(a:MVals A w d i)(f:MVals A w h g):MVals A w (d++h) (i++g):=by
 refine⟨by rw[Yal,Yal,a.len,f.len],fun k m c=>?_⟩;rcases YaC k d.length with b|b
 ·rw[YaR b]at c;rw[YaR (by rw[a.len];exact b)];exact a.each k m c
 ·rw[YaJ b]at c;rw[YaJ (by rw[a.len];exact b),a.len];exact f.each _ m c
theorem ZoS {A:Nat->Prop}{w:World}{sv:Value}{q:List Mth}(t:Src 7 MthR A w sv q):∃a,MVals A w q a/\Src 7 MVR A w sv a:=by
 rcases t with⟨G,m,rfl,rfl⟩|⟨b,o,m,rfl,B,E⟩
 ·exact⟨[],MVals.nil,.inl ⟨_,_,rfl,rfl⟩⟩
 ·have y:∀(l:List Mth) (d:Nat),(∀(k:Nat) (x:Mth),l[k]?=some x->∃v,MthR A w x v/\v.cells.size=7/\∀h u,v.cells[h]?=some u->w.cell? ⟨b,d+k*7+h,none⟩=some u)->
    ∃a:List MV,MVals A w l a/\∀(k:Nat) (x:MV),a[k]?=some x->∃v,MVR A w x v/\v.cells.size=7/\∀h u,v.cells[h]?=some u->w.cell? ⟨b,d+k*7+h,none⟩=some u:=by
   intro l;induction l with
   |nil=>intro d _;exact⟨[],MVals.nil,fun k x t=>(by simp at t)⟩
   |cons c l D=>
    intro d t;obtain⟨v,n,C,F⟩:=t 0 c rfl;obtain⟨a,g,r⟩:=D (d+7) (fun k x f=>by
     obtain⟨v,j,i,p⟩:=t (k+1) x (by simpa using f);exact⟨v,j,i,fun h u s=>by have:=p h u s;rw[show d+7+k*7+h=d+(k+1)*7+h by omega];exact this⟩)
    refine⟨(⟨v,(ZoT n).1,(ZoT n).2⟩:MV)::a,⟨by rw[YaI,YaI,g.len],fun k x f=>?_⟩,fun k x f=>?_⟩
    ·cases k with
     |zero=>obtain rfl:=Yac f;exact⟨_,rfl,n⟩
     |succ k=>obtain⟨u,j,i⟩:=g.each k x (by simpa using f);exact⟨u,by simpa using j,i⟩
    ·cases k with
     |zero=>obtain rfl:=Yac f;exact⟨v,rfl,C,F⟩
     |succ k=>
      obtain⟨z,j,i,p⟩:=r k x (by simpa using f);exact⟨z,j,i,fun h u s=>by have:=p h u s;rw[show d+(k+1)*7+h=d+7+k*7+h by omega];exact this⟩
  obtain⟨a,g,r⟩:=y q o E;exact⟨a,g,.inr ⟨b,o,m,by rw[g.len],by rw[g.len];exact B,r⟩⟩
theorem ZoU {A A':Nat->Prop}{w wr:World}{sv:Value}{d:List Mth}{f:List MV}(c:MVals A w d f)(s:Src 7 MVR A' wr sv f)(h:Below w.heap.size w wr):Src 7 MthR Anyw wr sv d:=by
 rcases s with⟨r,a,rfl,n⟩|⟨b,o,a,rfl,g,i⟩
 ·have:d=[]:=Ya0.1 (by rw[←c.len,n];rfl);exact .inl ⟨_,_,rfl,this⟩
 ·rw[c.len]at g⊢;refine .inr ⟨b,o,a,rfl,⟨trivial,g.2⟩,fun k x j=>?_⟩;obtain⟨u,q,p⟩:=c.each k x j;obtain⟨v,rfl,m,l⟩:=i k u q;exact⟨_,MthR.st.keep (MthR.st.mono p (fun _ _ _=>trivial)) (Yae (S:=fun _=>False) h) (fun _ _=>id),m,l⟩
abbrev ZrS (lo:Nat)(W:World)(v:Value)(l:List MV):Prop:=TRow 7 26 MVR lo W v l (l.map mvV)
theorem Zop:(prog.info? 26).map (fun i=>(i.zero,i.size,i.bytes))=some (some (.agg #[.string ⟨#[]⟩,.slice none 0 0,.string ⟨#[]⟩,.bool false,.int .i64 0,.slice none 0 0,.slice none 0 0]),7,120):=by kernel_rfl
theorem Zj7 {A:Nat->Prop}(lo:Nat)(W:World)(v sv:Value)(ty:TypeId)(l1 l2:List MV)(d:ZrS lo W v l1)(b:lo<=W.heap.size)(m:Src 7 MVR A W sv l2)(s:l1.length+l2.length<=1048576) :
  ∃a w',(Builtin.append_ #[68,68] ty #[v,sv]).run prog W=.ok a w'/\ZrS lo w' a (l1++l2)/\Below lo W w':=by
 obtain⟨k,h,i,c,j⟩:=info_parts Zop;obtain⟨a,w',r,q,p⟩:=Zbu (f:=mvV) (n:=7) (by decide) (fun x=>x.sz) (fun x=>x.one) 68 ty 26 k _ 120 underlying68 h i c j rfl d b m (by omega) (by omega);exact⟨a,w',r,q,p.only.below b (fun g l=>d.own g l)⟩
