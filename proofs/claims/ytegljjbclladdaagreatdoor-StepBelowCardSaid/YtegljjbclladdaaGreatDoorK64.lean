/- laws -/
import Derived.Test.YtegljjbclladdaaGreatDoorK60
set_option maxRecDepth 100000
set_option maxHeartbeats 16000000
namespace Go.Proofs.YtegljjbclladdaaGreatDoor
open Go.RowKit Proofs.Tryz
theorem ZeU {A:Nat->Prop}(cs:List Cls)(sv:Value)(n:List UInt8)(w:World)(s:Src 8 ClsR A w sv cs)(u:cs.length<=9223372036854775807) :
  Calls prog 32 #[sv,.string (S n)] w (Zef (Zba cs n) w):=by
 obtain⟨P,M,rfl⟩:=s.shape;obtain⟨m,p⟩:∃m,m=cs.length:=⟨_,rfl⟩
 have B:=Hd s;rw[←p]at B u⊢;have E:=Hd p;clear s p;go_enter func32,ntmps32;go_wp2
 go_loopw [5] (fun t wr=>∃k:Nat,k<=m/\t=.int .i64 k/\(cs.take k).any (fun c=>c.name==n)=false/\Below w.heap.size w wr) (fun t _=>m-(intOf t).toNat)
 case atStart=>exact⟨0,Yao _,rfl,by simp,Yab _ _⟩
 case round=>
  obtain⟨k,O,rfl,l,j⟩:=hrel;have a:=Hd l;have f:=Hd j;clear l j;by_cases D:k<m
  ·obtain⟨x,r⟩:∃x,cs[k]?=some x:=⟨_,Yaa (by rw[←E.o];exact D)⟩
   obtain⟨b,o,v,rfl,G,_,i⟩:=Src.elem (ClsR.st.below B.o f.o) k x r;obtain⟨_,_,_,rfl,_⟩:=G;have C:wr.cell? ⟨b,o+k*8,none⟩=some (.string (S x.name)):=i 0 _ rfl;have J:(0:Int)<=(k:Int):=by omega
   have L:(k:Int)<(m:Int):=by omega
   have y:=Zaf x.name;have N:=Zaf n;have g:=Hd r;clear i r;by_cases d:x.name=n
   ·have q:=Hd (Zhu g.o a.o (by rw[d];exact Ybi _));have h:(x.name==n)=true:=by rw[d];exact Ybi _
    generalize x.name=H at C y h;clear d g;go_wp2;go_ret;exact⟨by show _=Ending.returned (.int .i64 (idxV (Zba cs n)));unfold Zba;rw[q.o];rfl,f.o⟩
   ·have z:=Hd (Zap (fun c:Cls=>c.name==n) cs k x g.o);have h:(x.name==n)=false:=Yah.2 d;have F:Hid ((cs.take (k+1)).any (fun c:Cls=>c.name==n)=false):=Hd (by rw[z.o,a.o,YaV];exact h);generalize x.name=H at C y h;clear d g z;go_wp2;go_roundw
    case rel=>exact⟨k+1,by omega,by go_num,F.o,f.o⟩
    case measure=>simp[intOf];omega
  ·obtain rfl:k=m:=by omega
   have q:Hid (Zba cs n=none):=Hd (by
    have K:=a.o;rw[E.o,YaE]at K;unfold Zba;rw[YbK];intro c I;have:=YaW.1 K c I;simpa using this)
   go_wp2;go_ret;exact⟨by rw[q.o];rfl,f.o⟩
theorem Zi7 (l:List UInt8)(w:World)(h:l.length<=9223372036854775807) :
  Calls prog 212 #[.string (S l)] w (Zcc (Zbp l) w):=by
 have b:=Hd (Zes l w h);unfold Zjx at b;have g:=ZdD l;have z:((S l).size:Int)=(l.length:Int):=by rw[Zat]
 have m:(S l).size=l.length:=Zat l;obtain⟨d,a⟩:∃d,d=ZaL l:=⟨_,rfl⟩
 have c:Hid (Zbp l=l.take (l.length-2*d)):=Hd (by rw[a];rfl);rw[←a]at b g;have k:(((l.length:Int)-2*(d:Int)))=((l.length-2*d:Nat):Int):=by omega
 have i:l.length-2*d<=l.length:=by omega
 clear a;go_enter func212,ntmps212
 go_wp2_with fail;with_reducible refine b.o.mono ?_
 rintro e j⟨rfl,f⟩;go_wp2;go_ret;exact⟨by rw[c.o,ZgG];rfl,f▸Yab _ _⟩
theorem Zlc {A:Nat->Prop}(c:Cls)(v:Value)(n:List UInt8)(w:World)(u:ClsR A w c v)(L:c.mths.length<=9223372036854775807) :
  Calls prog 165 #[v,.string (S n)] w (Zef (c.mths.findIdx? (fun m=>m.name==n)) w):=by
 obtain⟨ac,ad,ab,rfl,U,N,f⟩:=u;obtain⟨lo,y,rfl⟩:=U.shape;obtain⟨s,fc,rfl⟩:=N.shape;obtain⟨h,g,rfl⟩:=f.shape;obtain⟨i,H⟩:∃i,i=c.mths.length:=⟨_,rfl⟩
 rw[←H]at f L⊢;have P:=Hd H;have p:Below w.heap.size w (w.alloc (.cells #[.string (S c.name),.string (S c.sup),.slice lo c.like.length y,.bool c.itf,.bool c.abs,.bool c.fin,.slice s c.flds.length fc,.slice h i g] 70)):=Zaa (Yab _ _) _;have t:=Hd (Box.new w #[.string (S c.name),.string (S c.sup),.slice lo c.like.length y,.bool c.itf,.bool c.abs,.bool c.fin,.slice s c.flds.length fc,.slice h i g] 70);have R:=Hd (MthR.st.below f p);have a:=Hd p;have I:(w.alloc (.cells #[.string (S c.name),.string (S c.sup),.slice lo c.like.length y,.bool c.itf,.bool c.abs,.bool c.fin,.slice s c.flds.length fc,.slice h i g] 70)).cell? ⟨w.heap.size,7,none⟩=some (.slice h i g):=t.o.cell 7 rfl;clear U N f p H;go_enter func165,ntmps165
 go_upto_region 1 with fail;obtain⟨G,D⟩:∃G,G=w.heap.size:=⟨_,rfl⟩
 generalize V:w.alloc (.cells #[.string (S c.name),.string (S c.sup),.slice lo c.like.length y,.bool c.itf,.bool c.abs,.bool c.fin,.slice s c.flds.length fc,.slice h i g] 70)=W at t R a I⊢;rw[←D]at t I⊢;clear V D;go_wp2;go_loopw [5] (fun K wr=>∃k:Nat,k<=i/\K=.int .i64 k/\(c.mths.take k).any (fun m=>m.name==n)=false/\Below W.heap.size W wr) (fun K _=>i-(intOf K).toNat)
 case atStart=>exact⟨0,Yao _,rfl,by simp,Yab _ _⟩
 case round=>
  obtain⟨k,af,rfl,C,q⟩:=hrel;have j:=Hd C;have r:=Hd q;have I:wr.cell? ⟨G,7,none⟩=some (.slice h i g):=(t.o.below q).cell 7 rfl;clear C q;by_cases Q:k<i
  ·obtain⟨x,J⟩:∃x,c.mths[k]?=some x:=⟨_,Yaa (by rw[←P.o];exact Q)⟩
   obtain⟨b,o,v,rfl,u,_,B⟩:=Src.elem (MthR.st.below R.o r.o) k x J;obtain⟨_,_,_,rfl,_⟩:=Zaj u;have O:wr.cell? ⟨b,o+k*7,none⟩=some (.string (S x.name)):=B 0 _ rfl;have Y:(0:Int)<=(k:Int):=by omega
   have aa:(k:Int)<(i:Int):=by omega
   have M:=Zaf x.name;have ae:=Zaf n;have d:=Hd J;clear B J u;by_cases l:x.name=n
   ·have F:=Hd (Zhu d.o j.o (by rw[l];exact Ybi _));have z:(x.name==n)=true:=by rw[l];exact Ybi _
    have E:=Hd (a.o.trans (r.o.mono a.o.size));generalize x.name=X at O M z;clear l d;go_wp2;go_ret;exact⟨by rw[F.o];rfl,E.o⟩
   ·have z:(x.name==n)=false:=Yah.2 l;have T:Hid ((c.mths.take (k+1)).any (fun m=>m.name==n)=false):=Hd (by rw[Zap (fun m:Mth=>m.name==n) c.mths k x d.o,j.o,YaV];exact z);generalize x.name=X at O M z;clear l d;go_wp2;go_roundw
    case rel=>exact⟨k+1,by omega,by go_num,T.o,r.o⟩
    case measure=>simp[intOf];omega
  ·obtain rfl:k=i:=by omega
   have F:Hid (c.mths.findIdx? (fun m=>m.name==n)=none):=Hd (by
    have Z:=j.o;rw[P.o,YaE]at Z;rw[YbK];intro m f;have:=YaW.1 Z m f;simpa using this)
   have E:=Hd (a.o.trans (r.o.mono a.o.size));go_wp2;go_ret;exact⟨by rw[F.o];rfl,E.o⟩
structure MkM (n:Nat) (w wr:World) (v:Value) (RB:List Nat) (M:Nat->Nat->Bool):Prop where
 mat:Mat w.heap.size n wr RB M
 out:TRow 1 74 (Flat (rowV n)) w.heap.size wr v RB (RB.map (rowV n))
 off:∀b∈RB,v.ownBlock≠some b
 bel:Below w.heap.size w wr
theorem MkM.below {n:Nat}{w wr w':World}{v:Value}{b:List Nat}{d:Nat->Nat->Bool}(c:MkM n w wr v b d)(a:Below wr.heap.size wr w'):MkM n w w' v b d:=
 ⟨c.mat.below a,c.out.below (Flat.stays _) a,c.off,c.bel.trans (a.mono c.bel.size)⟩
theorem MkM.lt {n:Nat}{w wr:World}{v:Value}{a:List Nat}{g:Nat->Nat->Bool}(f:MkM n w wr v a g):∀b∈a,b<wr.heap.size:=fun b c=>by
 obtain⟨i,d⟩:=Ya4.1 c;exact(f.mat.row i b d).lt
theorem MkM.push {n:Nat}{w wr w':World}{v h:Value}{c:List Nat}{u:Nat->Nat->Bool}{g:Nat}{f:Nat->Bool}(k:MkM n w wr v c u)(m:MRow wr g n 4 (rowC n f))(p:w.heap.size<=g)(r:g ∉ c)(s:v.ownBlock≠some g)
  (t:TRow 1 74 (Flat (rowV n)) w.heap.size w' h (c++[g]) ((c++[g]).map (rowV n)))(j:Grew wr v w' h):MkM n w w' h (c++[g]) (fun i=>if i=c.length then f else u i):=by
 have q:=k.mat.snoc m p r;have l:∀b∈c++[g],b<wr.heap.size:=fun b a=>by
  rcases Yaq.1 a with a|a
  ·exact k.lt b a
  ·rw[Yax.1 a];exact m.lt
 have d:∀b∈c++[g],v.ownBlock≠some b:=fun b a=>by
  rcases Yaq.1 a with a|a
  ·exact k.off b a
  ·rw[Yax.1 a];exact s
 refine⟨q.keep j.only (fun b a=>d b a),t,fun b a e=>d b a (j.into b (l b a) e),k.bel.trans (j.only.below k.bel.size (fun b a=>k.out.own b a))⟩
theorem TRow.flatKeep {α:Type}{n:Nat}{t:TypeId}{f:α->Value}{lo:Nat}{w w':World}{a:Value}{m:List α}{b:List Value}{S:Nat->Prop}(c:TRow n t (Flat f) lo w a m b)(i:Only S w w')(d:∀g,a.ownBlock=some g->¬S g):TRow n t (Flat f) lo w' a m b:=
 ⟨i.row c.row d,c.own,c.len,c.size,fun k x h=>c.each k x h⟩
theorem Zg5 {A:Nat->Prop}(L:List Cls)(sv:Value)(w:World)(aY:Src 8 ClsR A w sv L)(bW:L.length<=2000)(I:∀c∈L,c.like.length<=1000) :
  Calls prog 34 #[sv] w (Zh5 L w):=by
 have bL:Hid (∀x V,Below w.heap.size w V->Calls prog 32 #[sv,.string (S x)] V (fun e w'=>e=.returned (.int .i64 (idxV (Zba L x)))/\Below V.heap.size V w')):=Hd (fun x V G=>ZeU L sv x V (ClsR.st.below aY G) (by omega));have bH:=Hd aY;have bg:=Hd I;obtain⟨c0,cO,rfl⟩:=aY.shape;obtain⟨n,bJ⟩:∃n,n=L.length:=⟨_,rfl⟩
 unfold Zh5;rw[←bJ]at bL bH⊢;have bG:=Hd bJ;have cL:n<=2000:=by omega
 obtain⟨cd,bh,bB,bx,bz⟩:=info_parts Zf2;have bA:Hid (∀W,∃w',(Instr.makeSlice 74 (.int .i64 (n:Int)) (.int .i64 (n:Int))).run prog W=.ok (.slice (some ⟨W.heap.size,0,none⟩) n n) w'/\MRow w' W.heap.size n 4 (List.replicate n (.bool false))/\Below W.heap.size W w'):=Hd (fun W=>Zcq (P:=prog) 74 4 cd (.bool false) underlying74 bh bB bx rfl n (by rw[bz];omega) (by unfold maxLen;omega) W);have ck:Hid (MkM n w (w.alloc (.cells #[] 74)) (.slice (some ⟨w.heap.size,0,none⟩) 0 0) [] (fun _ _=>false)):=Hd ⟨Mat.nil,ZeV _ _ _ (Yad _),fun b au=>(by cases au),Zaa (Yab _ _) _⟩;clear aY bW I bJ bh bB bx bz;go_enter func34,ntmps34;go_wp2
 go_loopw [3,4] (fun aj bV wr=>∃(i:Nat) (q:List Nat) (U:Nat->Nat->Bool),i<=n/\bV=.int .i64 i/\q.length=i/\MkM n w wr aj q U/\(∀a d,a<i->d<n->U a d=Zh1 L a d)) (fun _ bV _=>n-(intOf bV).toNat)
 case atStart=>exact⟨0,[],_,Yao _,rfl,rfl,ck.o,fun a d ar=>by omega⟩
 case round=>
  obtain⟨i,q,U,ct,rfl,af,ay,ch⟩:=hrel;obtain⟨s,rfl⟩:∃s,s=wr:=⟨_,rfl⟩
  have h:=Hd ay;have H:=Hd af;have aB:=Hd ch;obtain⟨aZ,aX,rfl⟩:=ay.out.shape;rw[af];rw[af]at h;clear ay af ch;by_cases b2:i<n
  ·obtain⟨c,a5⟩:∃c,L[i]?=some c:=⟨_,Yaa (by rw[←bG.o];exact b2)⟩
   obtain⟨ai,ap,v,rfl,cp,_,B⟩:=Src.elem (ClsR.st.below bH.o h.o.bel) i c a5;obtain⟨cT,cW,cR,rfl,aQ,_,_⟩:=cp;obtain⟨lo,bR,rfl⟩:=aQ.shape;have aN:Hid (∀V,Below s.heap.size s V->V.cell? ⟨ai,ap+i*8+1,none⟩=some (.string (S c.sup))/\V.cell? ⟨ai,ap+i*8+2,none⟩=some (.slice lo c.like.length bR)):=Hd (fun V G=>
    have a7:=Yae (S:=fun _=>False) G
    ⟨a7.cell (a:=⟨ai,ap+i*8+1,none⟩) (B 1 _ rfl) id,a7.cell (a:=⟨ai,ap+i*8+2,none⟩) (B 2 _ rfl) id⟩)
   have bi:=Hd aQ;have bE:Hid (c.like.length<=1000):=Hd (bg.o c (Yaf a5));have b1:Hid (∀k d x,(c.sup::c.like)[k]?=some x->upsB L c (k+1) d=(upsB L c k d || Zba L x==some d)):=Hd (fun k d x ar=>ZpW L c k d x ar);have cc:Hid (∀d,upsB L c (c.like.length+1) d=Zh1 L i d):=Hd (fun d=>by unfold Zh1;rw[a5]);have cn:(0:Int)<=(i:Int):=by omega
   have cq:(i:Int)<(n:Int):=by omega
   obtain⟨j,ae,Y,ac⟩:=bA.o s;rw[Zri]at Y;have N:=Hd Y;have ao:=Hd ac;have cM:=Hd (h.o.below ac);obtain⟨g,M⟩:∃g,g=s.heap.size:=⟨_,rfl⟩
   have a4:=Hd M;have bm:Hid (∀V aj ty,TRow 1 9 StrR j.heap.size V aj [c.sup] [.string (S c.sup)]->Below j.heap.size j V->∃ag w',(Builtin.append_ #[22,22] ty #[aj,.slice lo c.like.length bR]).run prog V=.ok ag w'/\TRow 1 9 StrR j.heap.size w' ag (c.sup::c.like) ((c.sup::c.like).map strV)/\Below j.heap.size j w'):=Hd (fun V aj ty t G=>by
    obtain⟨ag,w',aq,cF,cy⟩:=Zc1 j.heap.size V aj _ ty [c.sup] c.like t G.size (StrR.st.below bi.o (ao.o.trans (G.mono ao.o.size))) (by have:=bE.o;simp;omega);exact⟨ag,w',aq,cF,G.trans (cy.only.below G.size (fun g M=>t.own g M))⟩)
   rw[←M]at N ae;clear B a5 aQ Y M;go_upto_region 6 with fail;clear ae;have cw:=Yab j.heap.size j;obtain⟨aU,cz⟩:=aN.o j ac;have aR:=Hd (fun V (G:Below j.heap.size j V)=>aN.o V (ao.o.trans (G.mono ao.o.size)));clear ac aN;have ca:=(ZhY j.heap.size j (Yad _) c.sup).below StrR.st (Zab (Yab _ _));have b0:Below j.heap.size j (j.alloc (.cells #[.string (S c.sup)] 9)).drew:=Zab (Zaa (Yab _ _) _);have b7:=Hd ca;have cm:=Hd b0;clear ca b0;go_cut [6] (fun cA ci=>∃cg,TRow 1 9 StrR j.heap.size ci cA (c.sup::c.like) cg/\Below j.heap.size j ci)
   case first=>
    first
    |(go_region_held3 (fun V=>V.cell? ⟨ai,ap+i*8+1,none⟩=some (.string (S c.sup))/\V.cell? ⟨ai,ap+i*8+2,none⟩=some (.slice lo c.like.length bR)) ((refine aR.o _ ?_;(with_reducible repeat (first|exact Yab _ _|assumption|refine Zab ?_|refine Zaa ?_ _))))
      ((obtain⟨cr,w2,aq,co,cs⟩:=bm.o _ _ 22 b7.o cm.o;refine ZaK (by rfl) _ _ 22 (by rfl) _ _ cr w2 (by rfl) (by rfl) aq ?_)))
    |fail
    all_goals
     go_wp2_with fail;go_meet
     exact⟨_,co,cs⟩
   case rest=>
    obtain⟨cg,bK,ab⟩:=hcut;have cU:=Hd ab;have av:=Hd (bK.src StrR.st);obtain⟨cS,cQ,rfl⟩:=bK.shape;obtain⟨O,a3⟩:∃O,O=(c.sup::c.like).length:=⟨_,rfl⟩
    rw[←a3]at av⊢;have cD:=Hd a3;have bq:Hid (O=c.like.length+1):=Hd (by rw[a3,YaI]);have a8:=Hd (N.o.keep (Yae (S:=fun _=>False) ab) id);have b8:Hid (g<j.heap.size):=Hd N.o.lt;have bp:=Hd (ao.o.trans (ab.mono ao.o.size));have cH:O<=1001:=by have:=bE.o;have:=bq.o;omega
    clear a3 bK ab aU cz cw bm aR b7 cm bi N;go_wp2;go_loopw [7] (fun bS b4=>∃k:Nat,k<=O/\bS=.int .i64 k/\MRow b4 g n 4 (rowC n (upsB L c k))/\Only (fun x=>x=g) wc b4) (fun bS _=>O-(intOf bS).toNat)
    case atStart=>
     refine⟨0,Yao _,rfl,?_,Yak _ _⟩;rw[ZcM (f:=upsB L c 0) (g:=fun _=>false) (fun d _=>ZpX L c d)];exact a8.o
    case round=>
     obtain⟨k,cx,rfl,J,aP⟩:=hrel;have aH:=Hd J;have bn:=Hd aP;have bc:Hid (Below s.heap.size s wr):=Hd (bp.o.trans (aP.below bp.o.size (fun b9 (e:b9=g)=>by have:=a4.o;omega)));clear J aP;by_cases bN:k<O
     ·obtain⟨x,bU⟩:∃x,(c.sup::c.like)[k]?=some x:=⟨_,Yaa (by rw[←cD.o];exact bN)⟩
      obtain⟨cE,cv,u,rfl,bQ,_,B⟩:=Src.elem (StrR.st.src av.o bn.o (fun d (T:j.heap.size<=d) (e:d=g)=>by have:=b8.o;omega)) k x bU;obtain rfl:=bQ;have aF:wr.cell? ⟨cE,cv+k,none⟩=some (.string (S x)):=by have O:=B 0 _ rfl;rw[YaH]at O;exact O
      have a9:=Hd (bL.o x wr (h.o.bel.trans (bc.o.mono h.o.bel.size)));have ad:=Hd (fun d=>b1.o k d x bU);have aw:Hid (∀m,Zba L x=some m->m<n):=Hd (fun m ah=>by
       rw[bG.o];unfold Zba at ah;exact(YaX.1 ah).1)
      have cK:(0:Int)<=(k:Int):=by omega
      have cJ:(k:Int)<(O:Int):=by omega
      clear B bU;go_wp2_with fail;with_reducible refine a9.o.mono ?_
      rintro e am⟨rfl,aO⟩;have K:=Hd (aH.o.keep (Yae (S:=fun _=>False) aO) id);have D:Hid (Only (fun x=>x=g) wc am):=Hd (bn.o.trans (Yae aO));clear aO a9 aF;cases aD:Zba L x with
      |none=>
       have aL:idxV none=(-1:Int):=rfl;rw[aL];have aE:Hid (MRow am g n 4 (rowC n (upsB L c (k+1)))):=Hd (by
        rw[ZcM (f:=upsB L c (k+1)) (g:=upsB L c k) (fun d _=>by rw[ad.o d,aD];simp)];exact K.o)
       clear aD aL ad aw K;go_wp2;go_roundw
       case rel=>exact⟨k+1,by omega,by go_num,aE.o,D.o⟩
       case measure=>simp[intOf];omega
      |some m=>
       have aL:idxV (some m)=(m:Int):=rfl;rw[aL];have bC:m<n:=aw.o m aD;have cV:(0:Int)<=(m:Int):=by omega
       have cZ:(m:Int)<(n:Int):=by omega
       have a0:am.frozen? ⟨g,m,none⟩=false:=K.o.free m;have aS:am.cell? ⟨g,m,none⟩=some (.bool (upsB L c k m)):=by rw[K.o.at_ m bC];exact ZpA bC
       have aE:Hid (MRow (am.setCell ⟨g,m,none⟩ (.bool true)) g n 4 (rowC n (upsB L c (k+1)))):=Hd (by
        have ar:=K.o.set m (.bool true);rw[Zlb]at ar;rw[ZcM (f:=upsB L c (k+1)) (g:=fun x=>if x=m then true else upsB L c k x) (fun d _=>by
         rw[ad.o d,aD];by_cases T:d=m
         ·rw[Yay T,T];simp
         ·rw[Yar T];have:(some m==some d)=false:=Yah.2 (fun ar=>T (Yac ar).symm);rw[this,Bool.or_false])]
        exact ar)
       have bX:Hid (Only (fun x=>x=g) wc (am.setCell ⟨g,m,none⟩ (.bool true))):=Hd (D.o.setCell (p:=⟨g,m,none⟩) rfl _);clear aD aL ad aw K;go_wp2;go_roundw
       case rel=>exact⟨k+1,by omega,by go_num,aE.o,bX.o⟩
       case measure=>simp[intOf];omega
     ·obtain rfl:k=O:=by omega
      have bZ:Hid (MRow wr g n 4 (rowC n (Zh1 L i))):=Hd (by
       have ar:=aH.o;rw[bq.o,ZcM (f:=upsB L c (c.like.length+1)) (g:=Zh1 L i) (fun d _=>cc.o d)]at ar;exact ar)
      have cj:=Hd (h.o.below bc.o);have aC:Below wr.heap.size wr (wr.alloc (.cells #[.slice (some ⟨g,0,none⟩) n n] 74)):=Zaa (Yab _ _) _;have C:=Hd (cj.o.below aC);have bY:=Hd (bZ.o.keep (Yae (S:=fun _=>False) aC) id);obtain⟨ag,w',aq,bd,b5⟩:=Zko n w.heap.size (wr.alloc (.cells #[.slice (some ⟨g,0,none⟩) n n] 74)) (.slice aZ i aX) (.slice (some ⟨wr.heap.size,0,none⟩) 1 1) 85 q [g] C.o.out C.o.bel.size (Zkw (f:=rowV n) (fun _=>rfl) wr g 74) (by have:=H.o;simp;omega);have cB:=Hd (C.o.push bY.o (by rw[a4.o];exact h.o.bel.size) (fun ah=>by have:=h.o.lt g ah;have:=a4.o;omega) (fun a7=>by have:=h.o.out.lt g a7;have:=a4.o;omega) bd b5);have cC:=Hd aq;clear aC aq bd b5 aH av a8;go_wp2_with (at_builtin;refine Zak rfl _ _ 85 rfl _ _ ag w' rfl rfl cC.o ?_)
      go_wp2;go_roundw
      case rel=>
       refine⟨i+1,q++[g],_,by omega,by go_num,by rw[Yal,H.o];rfl,cB.o,fun a d a1 T=>?_⟩;rw[H.o];show(if a=i then Zh1 L i else U a) d=Zh1 L a d;by_cases e:a=i
       ·rw[Yay e,e]
       ·rw[Yar e];exact aB.o a d (by omega) T
      case measure=>simp[intOf];omega
  ·obtain rfl:n=i:=by omega
   have bD:Hid (Mat w.heap.size n s q U):=Hd h.o.mat;have br:Hid (War (StepR L) n 0 0 0 U):=Hd (War.start (fun a b a1 au=>by rw[aB.o a b a1 au];exact ZpK L a b));have bu:Hid (∀g,(Value.slice aZ n aX).ownBlock=some g->¬g∈q):=Hd (fun g M ah=>h.o.off g ah M);have ba:Hid (Src 1 (Flat (rowV n)) (fun k=>w.heap.size<=k) s (.slice aZ n aX) q):=Hd (h.o.out.src (Flat.stays _));clear aB bA bL bH bg ck;go_wp2;go_loopw [9] (fun bT wA=>∃(k:Nat) (U:Nat->Nat->Bool),k<=n/\bT=.int .i64 k/\Mat w.heap.size n wA q U/\War (StepR L) n k 0 0 U/\Only (fun x=>x∈q) s wA) (fun bT _=>n-(intOf bT).toNat)
   case atStart=>exact⟨0,U,Yao _,rfl,bD.o,br.o,Yak _ _⟩
   case round=>
    obtain⟨k,b6,cx,rfl,bo,bl,bF⟩:=hrel;have C:=Hd bo;have aJ:=Hd bl;have Z:=Hd bF;clear bo bl bF bD br;by_cases I:k<n
    ·have cX:(0:Int)<=(k:Int):=by omega
     have cP:(k:Int)<(n:Int):=by omega
     go_wp2;go_loopw [10] (fun aG wA=>∃(i:Nat) (U:Nat->Nat->Bool),i<=n/\aG=.int .i64 i/\Mat w.heap.size n wA q U/\War (StepR L) n k i 0 U/\Only (fun x=>x∈q) s wA) (fun aG _=>n-(intOf aG).toNat)
     case atStart=>exact⟨0,b6,Yao _,rfl,C.o,aJ.o,Z.o⟩
     case round=>
      obtain⟨i,cl,ct,rfl,bv,bj,bw⟩:=hrel;have aI:=Hd bv;have aM:=Hd bj;have X:=Hd bw;clear bv bj bw C aJ Z;by_cases bb:i<n
      ·have cn:(0:Int)<=(i:Int):=by omega
       have cq:(i:Int)<(n:Int):=by omega
       go_wp2;go_loopw [11] (fun aK wA=>∃(d:Nat) (U:Nat->Nat->Bool),d<=n/\aK=.int .i64 d/\Mat w.heap.size n wA q U/\War (StepR L) n k i d U/\Only (fun x=>x∈q) s wA) (fun aK _=>n-(intOf aK).toNat)
       case atStart=>exact⟨0,cl,Yao _,rfl,aI.o,aM.o,X.o⟩
       case round=>
        obtain⟨d,y,T,rfl,bt,bs,bf⟩:=hrel;have F:=Hd bt;have aT:=Hd bs;have Q:=Hd bf;clear bt bs bf aI aM X;by_cases az:d<n
        ·have cN:(0:Int)<=(d:Int):=by omega
         have cd:(d:Int)<(n:Int):=by omega
         obtain⟨ak,E⟩:∃ak,q[i]?=some ak:=⟨_,Yaa (by rw[H.o];exact bb)⟩
         obtain⟨aV,J⟩:∃aV,q[k]?=some aV:=⟨_,Yaa (by rw[H.o];exact I)⟩
         obtain⟨al,a6,u,rfl,bQ,_,B⟩:=Src.elem (m:=n) ba.o i ak E;obtain rfl:=bQ;obtain⟨cG,cI,cY,bk,cb,_,aA⟩:=Src.elem (m:=n) ba.o k aV J;simp only[Ya1,Ybz,and_true]at bk;obtain⟨ce,b3⟩:=bk;subst ce b3;obtain rfl:=cb;have ax:¬al∈q:=bu.o al rfl;have aF:wr.cell? ⟨al,a6+i,none⟩=some (.slice (some ⟨ak,0,none⟩) n n):=Q.o.cell (a:=⟨al,a6+i,none⟩) (by have O:=B 0 _ rfl;rw[YaH]at O;exact O) ax;have aU:wr.cell? ⟨al,a6+k,none⟩=some (.slice (some ⟨aV,0,none⟩) n n):=Q.o.cell (a:=⟨al,a6+k,none⟩) (by have O:=aA 0 _ rfl;rw[YaH]at O;exact O) ax;have aS:=F.o.cell E az;have a2:=F.o.cell E I;have aW:=F.o.cell J az;have a0:=F.o.free E d;have l:=Hd (F.o.set E d (y i d || (y i k&&y k d)));have aa:=Hd (aT.o.step bb I az);have r:Hid (Only (fun x=>x∈q) s (wr.setCell ⟨ak,d,none⟩ (.bool (y i d || (y i k&&y k d))))):=Hd (Q.o.setCell (p:=⟨ak,d,none⟩) (Yaf E) _);generalize updM y i d (y i d || (y i k&&y k d))=bM at l aa;generalize y i d=x at aS l r;generalize y i k=b9 at a2 l r;generalize y k d=z at aW l r;clear B aA ax F aT Q E J;cases x with
         |true=>
          rw[Ycs]at l r;go_upto_region 23 with fail;go_region
          all_goals
           have R:=Hd (l.o.keep ((Yak (fun _=>False) _).drew) (fun _ _=>id));have D:=Hd r.o.drew;clear l r aF aU aS a2 aW a0;go_wp2;go_roundw
           case rel=>exact⟨d+1,bM,by omega,by go_num,R.o,aa.o,D.o⟩
           case measure=>simp[intOf];omega
         |false=>
          rw[YaV]at l r;cases b9 with
          |false=>
           rw[YaQ]at l r;go_upto_region 23 with fail;go_region
           all_goals
            have R:=Hd (l.o.keep ((Yak (fun _=>False) _).drew) (fun _ _=>id));have D:=Hd r.o.drew;clear l r aF aU aS a2 aW a0;go_wp2;go_roundw
            case rel=>exact⟨d+1,bM,by omega,by go_num,R.o,aa.o,D.o⟩
            case measure=>simp[intOf];omega
          |true=>
           rw[YaG]at l r;go_upto_region 23 with fail;go_region
           all_goals
            have R:=Hd (l.o.keep ((Yak (fun _=>False) _).drew) (fun _ _=>id));have D:=Hd r.o.drew;clear l r aF aU aS a2 aW a0;go_wp2;go_roundw
            case rel=>exact⟨d+1,bM,by omega,by go_num,R.o,aa.o,D.o⟩
            case measure=>simp[intOf];omega
        ·obtain rfl:n=d:=by omega
         have bP:=Hd aT.o.row;go_wp2;go_roundw
         case rel=>exact⟨i+1,y,by omega,by go_num,F.o,bP.o,Q.o⟩
         case measure=>simp[intOf];omega
      ·obtain rfl:n=i:=by omega
       have bI:=Hd aM.o.layer;go_wp2;go_roundw
       case rel=>exact⟨k+1,cl,by omega,by go_num,aI.o,bI.o,X.o⟩
       case measure=>simp[intOf];omega
    ·obtain rfl:n=k:=by omega
     have bO:Hid (Src 1 (Flat (rowV n)) (fun k=>w.heap.size<=k) wr (.slice aZ n aX) q):=Hd ((h.o.out.flatKeep Z.o (fun g M=>bu.o g M)).src (Flat.stays _));have cf:Hid (Below w.heap.size w wr):=Hd (h.o.bel.trans (Z.o.below h.o.bel.size (fun b9 cu=>C.o.lo b9 cu)));go_wp2;go_ret;exact⟨q,_,b6,rfl,C.o,H.o,bO.o,fun a b a1 au=>aJ.o.done (fun i d ar=>by rw[bG.o];exact ar.lt) a b a1 au,cf.o⟩
theorem Lined.like_len {cs:List Cls}(g:Lined cs):∀c∈allR cs,c.like.length<=1000:=fun c b=>by
 rw[←Zcs]at b;obtain⟨e,f,rfl⟩:=Ya2.1 b;obtain⟨i,a⟩:=Ya4.1 f;have d:=Ya8 List.length (g.like a);rw[YaB,YaB]at d;have:=(g.small i e a).2.2.2;omega
def Zpj (v:Value):Option Nat:=if intOf v<0 then none else some (intOf v).toNat
theorem Zgk (o:Option Nat):Zpj (.int .i64 (idxV o))=o:=by
 unfold Zpj intOf idxV;cases o with
 |none=>rfl
 |some k=>simp
theorem Zi3 (k:Nat):Zpj (.int .i64 (k:Nat))=some k:=Zgk (some k)
theorem ZcL {A:Nat->Prop}(cs:List Cls)(b:cs.length<=1000)(sv:Value)(n:List UInt8)(w:World)(a:Src 8 ClsR A w sv (allR cs)) :
  Calls prog 32 #[sv,.string (S n)] w (Zef (Zad (newT cs) n) w):=by
 have c:=ZeU (allR cs) sv n w a (by rw[Zc5];omega);rw[ZfW]at c;exact c
theorem Zpz {A:Nat->Prop}(cs:List Cls)(y:cs.length<=1000)(W:Wise (newT cs))(sv:Value)(s:List UInt8)(w:World)(x:Src 8 ClsR A w sv (allR cs))(j:s.length<=9223372036854775807) :
  Calls prog 164 #[sv,.string (S s)] w (Said (ZdX (newT cs) s) w):=by
 rw[W.kindR s];have g:=Hd (ZbR s w j);have c:=Hd (Zi7 s w j);have d:=Hd (fun V=>Zdc (Zbp s) V);have a:=Hd (fun V=>Zi7 s V j);obtain⟨z,f⟩:∃z,z=idxV (Zad (newT cs) (Zbp s)):=⟨_,rfl⟩
 have h:Hid (∀V,Below w.heap.size w V->Calls prog 32 #[sv,.string (S (Zbp s))] V (fun e w'=>e=.returned (.int .i64 z)/\Below V.heap.size V w')):=Hd (fun V F=>by
  rw[f];exact ZcL cs y sv (Zbp s) V (ClsR.st.below x F))
 have b:Hid ((Zad (newT cs) (Zbp s)).isSome=decide (0<=z)):=Hd (by
  rw[f];cases Zad (newT cs) (Zbp s)with
  |none=>rfl
  |some k=>show true=decide ((0:Int)<=(k:Int));rw[Yas (by omega)])
 unfold Zcc at c a;have H:=Zaf s;have C:∃v n r,sv=.slice v n r:=by obtain⟨v,r,rfl⟩:=x.shape;exact⟨_,_,_,rfl⟩
 obtain⟨v,n,r,rfl⟩:=C;generalize Zbp s=t at c d a h b⊢;generalize (Zad (newT cs) t).isSome=G at b⊢;generalize Zay t=D at d⊢;generalize Zag s=M at g⊢;unfold Zcv;clear f x j W;cases K:(s==[110,117,108,108])with
 |true=>
  clear g c d a h b;go_enter func164,ntmps164;go_wp2;go_ret;exact⟨rfl,Yab _ _⟩
 |false=>
  go_enter func164,ntmps164
  go_wp2_with fail;with_reducible refine g.o.mono ?_
  rintro e J⟨rfl,rfl⟩;cases M with
  |false=>
   clear g c d a h b;go_wp2;go_ret;exact⟨rfl,Yab _ _⟩
  |true=>
   go_wp2_with fail;with_reducible refine c.o.mono ?_
   rintro e w2⟨rfl,l⟩;have m:=Hd l;clear l;go_wp2_with fail;with_reducible refine(d.o w2).mono ?_
   rintro e I⟨rfl,rfl⟩;cases D with
   |true=>
    clear g c d a h b;go_wp2;go_ret;exact⟨rfl,m.o⟩
   |false=>
    go_wp2_with fail;with_reducible refine(a.o w2).mono ?_
    rintro e E⟨rfl,i⟩;have p:=Hd (m.o.trans (i.mono m.o.size));clear i;go_wp2_with fail;with_reducible refine(h.o E p.o).mono ?_
    rintro e L⟨rfl,i⟩;have B:=Hd (p.o.trans (i.mono p.o.size));clear i g c d a h;by_cases f:0<=z
    ·have q:decide (0<=z)=true:=Yas f;have u:Hid (G=true):=Hd (by rw[b.o,q]);clear b;go_wp2;go_ret;exact⟨by rw[u.o];rfl,B.o⟩
    ·have q:decide (0<=z)=false:=Yan f;have u:Hid (G=false):=Hd (by rw[b.o,q]);clear b;go_wp2;go_ret;exact⟨by rw[u.o];rfl,B.o⟩
theorem ZmY {A:Nat->Prop}(cs:List Cls)(g:cs.length<=1000)(W:Wise (newT cs))(sv:Value)(s:List UInt8)(w:World)(f:Src 8 ClsR A w sv (allR cs))(h:s.length<=9223372036854775807) :
  Calls prog 96 #[sv,.string (S s)] w (Said (Zb6 (newT cs) s) w):=by
 rw[W.there s];have c:=Hd (Zpz cs g W sv s w f h);unfold Said at c;have n:=Zaf s;generalize ZdX (newT cs) s=q at c⊢;unfold Zcv;obtain⟨m,l,rfl⟩:=f.shape;clear f h W;by_cases a:s=[110,117,108,108]
 ·have d:(s==[110,117,108,108])=true:=by rw[a];rfl
  have b:decide (s≠[110,117,108,108])=false:=Yan (fun p=>p a);have j:(s != [110,117,108,108])=false:=by rw[bne,d];rfl
  rw[b];clear c b a;go_enter func96,ntmps96;go_wp2;go_ret;exact⟨rfl,Yab _ _⟩
 ·have d:(s==[110,117,108,108])=false:=Yah.2 a;have b:decide (s≠[110,117,108,108])=true:=Yas a;have j:(s != [110,117,108,108])=true:=by rw[bne,d];rfl
  rw[b];clear b a;go_enter func96,ntmps96
  go_wp2_with fail;with_reducible refine c.o.mono ?_
  rintro e k⟨rfl,i⟩;clear c;go_wp2;go_ret;exact⟨rfl,i⟩
theorem Zjd (lo:Nat)(W:World)(a:lo<=W.heap.size):TRow 3 82 FldR lo (W.alloc (.cells #[] 82)) (.slice (some ⟨W.heap.size,0,none⟩) 0 0) [] []:=ZeV _ _ _ a
theorem Zkl {A:Nat->Prop}(cs:List Cls)(af:Lined cs)(W:Wise (newT cs))(sv:Value) :
  ∀(L:List Nat) (n:List UInt8) (w:World),ZdA (newT cs) L (Zad (newT cs) n)->L.length<=10000->Src 8 ClsR A w sv (allR cs)->Calls prog 163 #[sv,.string (S n)] w (ZfB (ZaZ (newT cs) L) w):=by
 intro L;induction L with
 |nil=>
  intro n w M _ k;have B:Zad (newT cs) n=none:=M;have d:=Hd (ZcL cs af.len sv n w k);unfold Zef at d;rw[B]at d;obtain⟨aQ,Z,rfl⟩:=k.shape;clear k M B;have H:idxV none=(-1:Int):=rfl;rw[H]at d;unfold ZfB;go_enter func163,ntmps163
  go_wp2_with fail;with_reducible refine d.o.mono ?_
  rintro e b⟨rfl,h⟩;have t:=Hd h;clear h;go_wp2;go_ret;exact⟨_,rfl,TRow.nil _ _,t.o⟩
 |cons i L aE=>
  intro n w M aw k;obtain⟨B,en,q,f⟩:=M;have d:=Hd (ZcL cs af.len sv n w k);unfold Zef at d;rw[B]at d;have H:idxV (some i)=(i:Int):=rfl;rw[H]at d;have ag:(allR cs)[i]?=some en.cls:=by rw[ZdR,q];rfl
  have Y:i<(allR cs).length:=(Yag.1 ag).1;have U:Za6 (newT cs) i=en.cls.flds:=by unfold Za6;rw[q]
  have ax:=ZeG W.sh.fl L;have ar:=W.sh.fl i en q;rw[YaI]at aw;have C:=af.sup q;have ac:Hid (∀V,Below w.heap.size w V->Calls prog 163 #[sv,.string (S en.cls.sup)] V (fun e w'=>∃v,e=.returned v/\TRow 3 82 FldR V.heap.size w' v (ZaZ (newT cs) L) ((ZaZ (newT cs) L).map fldV)/\Below V.heap.size V w')):=Hd (fun V c=>aE en.cls.sup V (by rw[C];exact f) (by omega) (ClsR.st.below k c));have am:=Hd k;obtain⟨aQ,Z,rfl⟩:=k.shape;obtain⟨m,ak⟩:∃m,m=(allR cs).length:=⟨_,rfl⟩
  rw[←ak]at d ac am Y⊢;have aR:=Hd (Yab w.heap.size w);have aU:(0:Int)<=(i:Int):=by omega
  have aT:(i:Int)<(m:Int):=by omega
  have aL:=Hd ag;unfold ZfB;have ao:Hid (ZaZ (newT cs) (i::L)=ZaZ (newT cs) L++en.cls.flds):=Hd (by show ZaZ (newT cs) L++Za6 (newT cs) i=_;rw[U]);have Q:Hid ((ZaZ (newT cs) L).length+en.cls.flds.length<=1048576):=Hd (by omega);clear k ak ag Y U ax ar aw C f q aE B H;go_enter func163,ntmps163
  go_wp2_with fail;with_reducible refine d.o.mono ?_
  rintro e b⟨rfl,h⟩;have t:=Hd h;obtain⟨p,r,v,rfl,aF,_,f⟩:=Src.elem (ClsR.st.below am.o h) i en.cls aL.o;obtain⟨aW,aX,aV,rfl,_,x,_⟩:=aF;obtain⟨ad,fc,rfl⟩:=x.shape;have E:Hid (∀V,Below b.heap.size b V->V.cell? ⟨p,r+i*8+1,none⟩=some (.string (S en.cls.sup))/\V.cell? ⟨p,r+i*8+6,none⟩=some (.slice ad en.cls.flds.length fc)):=Hd (fun V c=>
   have aC:=Yae (S:=fun _=>False) c
   ⟨aC.cell (a:=⟨p,r+i*8+1,none⟩) (f 1 _ rfl) id,aC.cell (a:=⟨p,r+i*8+6,none⟩) (f 6 _ rfl) id⟩)
  have ap:=Hd x;clear h f x d;have aA:Hid ((ZaZ (newT cs) L).length<=1048576):=Hd (by have:=Q.o;omega);have s:Hid (∀V N I,TRow 3 82 FldR b.heap.size V N [] []->TRow 3 82 FldR b.heap.size V I (ZaZ (newT cs) L) ((ZaZ (newT cs) L).map fldV)->Below b.heap.size b V->∃j w',(Builtin.append_ #[67,67] 67 #[N,I]).run prog V=.ok j w'/\
    TRow 3 82 FldR b.heap.size w' j (ZaZ (newT cs) L) ((ZaZ (newT cs) L).map fldV)/\Below b.heap.size b w'):=Hd (fun V N I l F c=>by
   obtain⟨j,w',u,G,ae⟩:=ZfY b.heap.size V N I 67 [] _ l c.size (F.src FldR.st) (by have:=aA.o;simpa using this);rw[Ybq]at G;exact⟨j,w',u,G,c.trans (ae.only.below c.size (fun g ab=>l.own g ab))⟩)
  have z:Hid (∀V v,TRow 3 82 FldR b.heap.size V v (ZaZ (newT cs) L) ((ZaZ (newT cs) L).map fldV)->Below b.heap.size b V->∃j w',(Builtin.append_ #[67,67] 67 #[v,.slice ad en.cls.flds.length fc]).run prog V=.ok j w'/\
    TRow 3 82 FldR b.heap.size w' j (ZaZ (newT cs) (i::L)) ((ZaZ (newT cs) (i::L)).map fldV)/\Below b.heap.size b w'):=Hd (fun V v l c=>by
   obtain⟨j,w',u,G,ae⟩:=ZfY b.heap.size V v _ 67 _ _ l c.size (FldR.st.below ap.o c) Q.o;rw[←ao.o]at G;exact⟨j,w',u,G,c.trans (ae.only.below c.size (fun g ab=>l.own g ab))⟩)
  have D:Hid (∀V,Below b.heap.size b V->Calls prog 163 #[.slice (some ⟨p,r,none⟩) m Z,.string (S en.cls.sup)] V (fun e w'=>∃v,e=.returned v/\TRow 3 82 FldR b.heap.size w' v (ZaZ (newT cs) L) ((ZaZ (newT cs) L).map fldV)/\Below V.heap.size V w'/\Below b.heap.size b w')):=Hd (fun V c=>by
   refine(ac.o V (t.o.trans (c.mono t.o.size))).mono ?_;rintro e w'⟨v,l,F,J⟩;exact⟨v,l,F.lower FldR.st c.size,J,c.trans (J.mono c.size)⟩)
  have P:Below b.heap.size b (b.alloc (.cells #[] 82)).drew:=Zab (Zaa (Yab _ _) _);have ah:=(Zjd b.heap.size b (Yad _)).below FldR.st (Zab (Yab _ _));have R:Hid (Calls prog 163 #[.slice (some ⟨p,r,none⟩) m Z,.string (S en.cls.sup)] (b.alloc (.cells #[] 82)).drew (fun e w'=>∃v,e=.returned v/\TRow 3 82 FldR b.heap.size w' v (ZaZ (newT cs) L) ((ZaZ (newT cs) L).map fldV)/\TRow 3 82 FldR b.heap.size w' (.slice (some ⟨b.heap.size,0,none⟩) 0 0) [] []/\Below b.heap.size b w')):=Hd (by
   refine(D.o _ P).mono ?_;rintro e w'⟨v,l,F,J,aO⟩;exact⟨v,l,F,ah.below FldR.st J,aO⟩)
  have T:Hid (∀V:World,b.heap.size<=V.heap.size->TRow 3 82 FldR b.heap.size (V.alloc (.cells #[] 82)) (.slice (some ⟨V.heap.size,0,none⟩) 0 0) [] []):=Hd (fun V c=>Zjd _ V c);obtain⟨aK,aH⟩:=E.o b (Yab _ _);have aM:=Yab b.heap.size b;clear ah ac aR P;go_upto_region 4 with fail;go_cut [4] (fun aN aB=>TRow 3 82 FldR b.heap.size aB aN (ZaZ (newT cs) (i::L)) ((ZaZ (newT cs) (i::L)).map fldV)/\Below b.heap.size b aB)
  case first=>
   first
   |(go_region_held3 (fun V=>V.cell? ⟨p,r+i*8+1,none⟩=some (.string (S en.cls.sup))/\V.cell? ⟨p,r+i*8+6,none⟩=some (.slice ad en.cls.flds.length fc)) ((refine E.o _ ?_;(with_reducible repeat (first|exact Yab _ _|assumption|refine Zab ?_|refine Zaa ?_ _))))
     (first
      |(go_at_call 163;(with_reducible refine R.o.mono ?_);rintro al aS⟨aI,rfl,aD,y,aj⟩)
      |(go_at_call 163;(with_reducible refine(D.o _ ?_).mono ?_);(focus ((with_reducible repeat (first|exact Yab _ _|assumption|refine Zab ?_|refine Zaa ?_ _));done));rintro al aS⟨aI,rfl,av,O,X⟩)
      |((revert K;intro K;obtain⟨aJ,aP,aq,aG,b3⟩:=z.o _ _ ai K;refine ZaK (by rfl) _ _ 67 (by rfl) _ _ aJ aP (by rfl) (by rfl) aq ?_))
      |((revert y;intro y;obtain⟨aa,w2,u,ai,K⟩:=s.o _ _ _ y aD aj;refine ZaK (by rfl) _ _ 67 (by rfl) _ _ aa w2 (by rfl) (by rfl) u ?_))
      |((revert O;intro O;obtain⟨aa,w2,u,ai,K⟩:=s.o _ _ _ (T.o _ (Below.size X)) (av.below FldR.st (Zaa (Yab _ _) _)) (Zaa X _);refine ZaK (by rfl) _ _ 67 (by rfl) _ _ aa w2 (by rfl) (by rfl) u ?_))))
   |fail
   all_goals
    go_wp2_with fail;go_meet
    exact⟨aG,b3⟩
  case rest=>
   obtain⟨az,h⟩:=hcut;have ay:=Hd (az.lower FldR.st t.o.size);have au:=Hd (t.o.trans (h.mono t.o.size));clear az h aK aH aM E s z D R T;go_wp2;go_ret;exact⟨_,rfl,ay.o,au.o⟩
