/- laws -/
import Derived.Test.YtggcdinoflchjaaGreatDoorK27
set_option maxRecDepth 100000
set_option maxHeartbeats 16000000
namespace Go.Proofs.YtggcdinoflchjaaGreatDoor
open Go.RowKit
theorem Zfh (l:List UInt8):memB l=ZaC l:=by
 unfold memB ZaC Zal;cases hn:ZbJ l with
 | false=>simp
 | true=>
  have h1:=(Zby hn).1;have h2:=Zgz hn 0 (by omega);unfold okAt Zb6 Zdv at h2;rw [Yax,Yax,Yax,Ybk,Ybg,decide_eq_false_iff_not,YaO];simp only [YaX,Yar,YaO,ne_eq,not_true_eq_false,false_and,or_false] at h2;omega
/-! What the document's tests come to. -/
def ZpU (c:Cls) (k:Nat):Bool:=(c.like.take k).all (fun x=>Zal x && !(x == c.name)) && Zbu c.like k
def fldR (c:Cls) (k:Nat):Bool:=(c.flds.take k).all (fun f=>ZaC f.name && (Zaj f.kind && !c.itf)) && Zbu (c.flds.map Fld.name) k
def mthB (c:Cls) (m:Mth):Bool:=m.ok && ((!m.abs || c.abs) && (!c.itf || m.abs))
def mthR (c:Cls) (k:Nat):Bool:=(c.mths.take k).all (mthB c) && Zbu (c.mths.map Mth.name) k
def ZlF (c:Cls):Bool:=Zal c.name && (Zal c.sup && !(c.name == c.sup))
def Znu (c:Cls):Bool:=(((ZlF c && ZpU c c.like.length) && fldR c c.flds.length) && mthR c c.mths.length) && ((!c.itf || (c.abs && decide (c.sup=objL))) && !(c.abs && c.fin))
theorem ZpC (l:List (List UInt8)) (s:List UInt8):l.any (fun y=>y == s)=true↔s ∈ l:=by
 rw [YaQ];constructor
 ·rintro ⟨y,hy,h⟩;rw [beq_iff_eq] at h;exact h ▸ hy
 ·intro h;exact ⟨s,h,by simp⟩
theorem Znv (c:Cls):Znu c=c.fine:=by
 have hl:Zbu c.like c.like.length=ZbB c.like:=rfl;have hf:Zbu (c.flds.map Fld.name) c.flds.length=ZbB (c.flds.map Fld.name):=by unfold ZbB;rw [Yaz]
 have hm:Zbu (c.mths.map Mth.name) c.mths.length=ZbB (c.mths.map Mth.name):=by unfold ZbB;rw [Yaz]
 unfold Znu ZpU fldR mthR ZlF Cls.fine Cls.names Cls.sort;rw [hl,hf,hm,Yaw (Yac _),Yaw (Yac _),Yaw (Yac _)];generalize ZbB c.like=d1;generalize ZbB (c.flds.map Fld.name)=d2;generalize ZbB (c.mths.map Mth.name)=d3;clear hl hf hm;have hfl:∀ f:Fld,f.ok=(ZaC f.name && Zaj f.kind):=fun f=>by unfold Fld.ok;rw [Zfh]
 rw [Ybk];cases d1 <;> cases d2 <;> cases d3 <;> simp only [Ycl,YaF,Bool.and_true,YbZ,iff_self] <;> try (simp;done)
 have hfa:(c.flds.all fun f=>ZaC f.name && (Zaj f.kind && !c.itf))=true↔(c.flds.all Fld.ok=true/\(c.itf=true->c.flds.length=0)):=by
  rw [YaE,YaE];constructor
  ·intro h;refine ⟨fun x hx=>?_,fun hi=>?_⟩
   ·have:=h x hx;rw [hfl];simp only [Yar] at this ⊢;exact ⟨this.1,this.2.1⟩
   ·cases hc:c.flds with
    | nil=>rfl
    | cons x r=>
     have:=h x (by rw [hc];simp);rw [hi] at this;simp at this
  ·rintro ⟨h,hi⟩ x hx;have:=h x hx;rw [hfl] at this;simp only [Yar,Ybg] at this ⊢;refine ⟨this.1,this.2,?_⟩;cases hcI:c.itf
   ·rfl
   ·have:=hi hcI;rw [YaY.1 this] at hx;simp at hx
 have hma:(c.mths.all (mthB c))=true↔(c.mths.all Mth.ok=true/\(c.abs=false->c.mths.any Mth.abs=false)/\(c.itf=true->c.mths.all Mth.abs=true)):=by
  rw [YaE,YaE,YaE];unfold mthB;constructor
  ·intro h;refine ⟨fun x hx=>?_,fun ha=>?_,fun hi x hx=>?_⟩
   ·have:=h x hx;simp only [Yar] at this;exact this.1
   ·rw [YaT];intro x hx;have:=h x hx;rw [ha] at this;simp at this
    simp [this.2.1]
   ·have:=h x hx;rw [hi] at this;simp at this
    exact this.2.2
  ·rintro ⟨h1,h2,h3⟩ x hx;have:=h1 x hx;simp only [Yar,YaX,Ybg];refine ⟨this,?_,?_⟩
   ·cases hA:c.abs
    ·left
     have:=YaT.1 (h2 hA) x hx
     simpa using this
    ·right;rfl
   ·cases hI:c.itf
    ·left;rfl
    ·right
     exact h3 hI x hx
 have hla:(c.like.all fun x=>Zal x && !(x == c.name))=true↔(c.like.all Zal=true/\¬ c.name ∈ c.like):=by
  rw [YaE,YaE];constructor
  ·intro h;refine ⟨fun x hx=>?_,fun hx=>?_⟩
   ·have:=h x hx;simp only [Yar] at this;exact this.1
   ·have:=h _ hx;simp at this
  ·rintro ⟨h1,h2⟩ x hx;simp only [Yar,Ybg,Yah];exact ⟨h1 x hx,fun e=>h2 (e ▸ hx)⟩
 have hab:(!(c.sup :: c.like).any fun y=>y == c.name)=true↔(c.name ≠ c.sup/\¬ c.name ∈ c.like):=by
  rw [Ybg,Yb1,ne_eq,ZpC,Yav,not_or]
 simp only [Yar,hfa,hma,hla,hab,Ycd,YaX,Ybg,Bool.and_eq_false_iff,Yah,YaO];cases hI:c.itf <;> cases hA:c.abs <;> cases hF:c.fin <;> cases hX:c.mths.any Mth.abs <;> simp <;> grind
theorem Zjf:∀ l:List Ins,l.all Ins.fine=decide (allE l=0)
 | []=>rfl
 | x :: l=>by
  have ih:=Zjf l;unfold allE;rw [Ycd,ih];by_cases h:x.e=0
  ·rw [YaC h];simp [Ins.fine,h]
  ·rw [Yas h];simp [Ins.fine,h]
def mok0 (m:Mth):Bool:=ZaC m.name && (decide (m.res=[]) || Zaj m.res)
theorem ZqF (m:Mth):m.ok=((mok0 m && m.params.all Zaj) && m.body):=by
 unfold Mth.ok mok0;rw [Zfh];generalize ZaC m.name=a;generalize m.params.all Zaj=p;generalize decide (m.res=[])=d;generalize Zaj m.res=e;generalize m.body=b;cases a <;> cases p <;> cases d <;> cases e <;> cases b <;> rfl
theorem ZgI {A:Nat->Prop} (m:Mth) (v:Value) (w:World) (hv:MthR A w m v) (hfit:m.Fit) :
  Calls Tryz.prog 188 #[v] w (Said m.ok w):=by
 obtain ⟨pv,cv,kv,rfl,hp,hcd,hkt⟩:=hv;obtain ⟨po,pc,rfl⟩:=hp.shape;obtain ⟨co,cc,rfl⟩:=hcd.shape;obtain ⟨ko,kc,rfl⟩:=hkt.shape;have hb0:Below w.heap.size w (w.alloc (.cells #[.string (S m.name),.slice po m.params.length pc,.string (S m.res),.bool m.abs,.int .i64 m.loc,.slice co m.code.length cc,.slice ko m.cats.length kc] 44)):=(Yab _ w).alloc (Yac _) _;have HB0:=Hd hb0;have HBX:=Hd (Box.new w #[.string (S m.name),.slice po m.params.length pc,.string (S m.res),.bool m.abs,.int .i64 m.loc,.slice co m.code.length cc,.slice ko m.cats.length kc] 44);have HCP:=Hd (Src.elem (StrR.st.below hp hb0));have HCK:=Hd (Src.elem (CatR.st.below hkt hb0));have HNM:Hid (∀ W,Calls Tryz.prog 187 #[.string (S m.name)] W fun e w'=>e=.returned (.bool (ZaC m.name))/\W=w'):=Hd (fun W=>Zdt m.name W hfit.name);have HRR:Hid (∀ s W,ZaA s->Calls Tryz.prog 127 #[.string (S s)] W fun e w'=>e=.returned (.bool (Zaj s))/\W=w'):=Hd (fun s W h=>ZbH s W h);have HRC:Hid (∀ s W,ZaA s->Calls Tryz.prog 186 #[.string (S s)] W fun e w'=>e=.returned (.bool (Zal s))/\W=w'):=Hd (fun s W h=>Zch s W h);have HAL:Hid (∀ W,Below (w.alloc (.cells #[.string (S m.name),.slice po m.params.length pc,.string (S m.res),.bool m.abs,.int .i64 m.loc,.slice co m.code.length cc,.slice ko m.cats.length kc] 44)).heap.size (w.alloc (.cells #[.string (S m.name),.slice po m.params.length pc,.string (S m.res),.bool m.abs,.int .i64 m.loc,.slice co m.code.length cc,.slice ko m.cats.length kc] 44)) W->Calls Tryz.prog 230 #[.slice co m.code.length cc] W fun e w'=>e=.returned (.int .i64 (allE m.code:Nat))/\Below W.heap.size W w'):=Hd (fun W hW=>
  Zlb m.code _ W (Zmz (InsR.st.below (InsR.st.below hcd hb0) hW)) hfit.code hfit.n2)
 have HFP:Hid (∀ x ∈ m.params,ZaA x):=Hd hfit.params;have HFC:Hid (∀ x ∈ m.cats,ZaA x.cls):=Hd hfit.cats;have HRES:Hid (ZaA m.res):=Hd hfit.res;have hrl:=Zb7 m.res [];have hn1:=hfit.n1;have hn2:=hfit.n2;have hn3:=hfit.n3;have hMA:=ZqF m;have hBO:m.body=if m.abs then decide (m.loc=0) && (decide (m.code.length=0) && decide (m.cats.length=0)) else decide ((m.params.length:Int)<m.loc) && (decide (0<m.code.length) && (decide (allE m.code=0) && m.cats.all (Cat.ok m.code.length))):=by
  rw [←Zjf];rfl
 rw [hBO] at hMA;clear hp hcd hkt hfit hb0 hBO;obtain ⟨R,hR⟩:∃ R,R=m.ok:=⟨_,rfl⟩
 rw [←hR] at hMA ⊢;have HMA:=Hd hMA;obtain ⟨n1,h1⟩:∃ n,n=m.params.length:=⟨_,rfl⟩
 obtain ⟨n,h2⟩:∃ n,n=m.code.length:=⟨_,rfl⟩
 obtain ⟨n3,h3⟩:∃ n,n=m.cats.length:=⟨_,rfl⟩
 simp only [←h1,←h2,←h3] at HB0 HBX HCP HCK HAL HMA hn1 hn2 hn3 ⊢;have HN1:=Hd h1;have HN3:=Hd h3;obtain ⟨name,params,res,ab,loc,code,cats⟩:=m;dsimp only at *;obtain ⟨K0,hK0⟩:∃ K,K=mok0 { name:=name,params:=params,res:=res,abs:=ab,loc:=loc,code:=code,cats:=cats }:=⟨_,rfl⟩
 rw [←hK0] at HMA;unfold mok0 at hK0;dsimp only at hK0;have HK0:=Hd hK0;generalize ZaC name=a0 at HNM HK0;generalize decide (res=[])=d0 at hrl HK0;generalize allE code=AE at HAL HMA;have HRL:=Hd hrl;clear hMA hR h1 h2 h3 hK0 hrl;go_enter Tryz.func188,Tryz.ntmps188
 go_upto_region 1 with fail
 generalize w.alloc (.cells #[.string (S name),.slice po n1 pc,.string (S res),.bool ab,.int .i64 loc,.slice co n cc,.slice ko n3 kc] 44)=W0 at HB0 HBX HCP HCK HAL ⊢;obtain ⟨B,hB⟩:∃ B,B=w.heap.size:=⟨_,rfl⟩
 rw [←hB] at HBX ⊢;clear hB;have HBL:Hid (B<W0.heap.size):=Hd HBX.o.lt
 go_cut [3] (fun v3 wx=>v3=.bool K0/\wx=W0)
 case first=>
  have c0:=HBX.o.cell 0 rfl;have c2:=HBX.o.cell 2 rfl
  go_wp2_with fail
  refine (HNM.o _).mono ?_;rintro e w1 ⟨rfl,rfl⟩;have hrl:=HRL.o;cases a0
  ·go_wp2
   go_meet
   exact ⟨by rw [HK0.o];rfl,rfl⟩
  cases d0
  ·go_wp2_with fail
   refine (HRR.o _ _ HRES.o).mono ?_;rintro e w1 ⟨rfl,rfl⟩;clear hrl;generalize Zaj res=q at HK0 ⊢;go_wp2
   go_meet
   exact ⟨by rw [HK0.o];simp,rfl⟩
  ·go_wp2
   go_meet
   exact ⟨by rw [HK0.o];simp,rfl⟩
 case rest=>
  obtain ⟨rfl,rfl⟩:=hcut;have c1:=HBX.o.cell 1 rfl;go_wp2
  go_loop [3,4] (fun v3 v4=>∃ (k:Nat) (ok:Bool),k<=n1/\v4=.int .i64 k/\v3=.bool ok/\ok=(K0 && (params.take k).all Zaj)) (fun _ v4=>n1 - (intOf v4).toNat)
  case atStart=>exact ⟨0,K0,Yai _,rfl,rfl,by simp⟩
  case round=>
   obtain ⟨k,ok,hk,rfl,rfl,hok⟩:=hrel;have HOK:=Hd hok;clear hok;by_cases hlt:k<n1
   ·have hkl:k<params.length:=by have:=HN1.o;omega
    obtain ⟨x,hx⟩:∃ x,params[k]? = some x:=⟨_,Yaa hkl⟩
    have hoW:=Yan (fun _=>False) wc;obtain ⟨b,o,v,rfl,hv,hsz,hcl⟩:=HCP.o k x hx;have HV:=Hd (StrR.st.keep hv hoW (fun _ _=>id));obtain rfl:=hv;have d0:wc.cell? ⟨b,o+k,none⟩=some (.string (S x)):=hoW.cell (a:=⟨b,o+k,none⟩) (by have q:=hcl 0 _ rfl;rw [YaG] at q;exact q) id;clear hcl hsz;have hts:(K0 && (params.take (k+1)).all Zaj)=(ok && Zaj x):=by rw [Zcp Zaj params k x hx,HOK.o,YaR]
    have HTS:=Hd hts;have HXS:=Hd (HFP.o x (Yaf hx));clear hx hkl hoW hts;have hk0:(0:Int)<=k:=by omega
    have hkn:(k:Int)<(n1:Int):=by omega
    cases ok
    ·rw [YaF] at HTS;go_wp2
     go_round
     case rel=>exact ⟨k+1,false,by omega,by go_num,rfl,HTS.o.symm⟩
     case measure=>simp [intOf];omega
    ·rw [Yax] at HTS
     go_wp2_with fail
     refine (HRR.o _ _ HXS.o).mono ?_;rintro e w1 ⟨rfl,rfl⟩;generalize Zaj x=q at HTS ⊢;go_wp2
     go_round
     case rel=>exact ⟨k+1,q,by omega,by go_num,rfl,HTS.o.symm⟩
     case measure=>simp [intOf];omega
   ·obtain rfl:n1=k:=by omega
    rw [HN1.o,Yaw (Yac _)] at HOK;rw [←HOK.o] at HMA;clear hlt;have c3:=HBX.o.cell 3 rfl;have c4:=HBX.o.cell 4 rfl;have c5:=HBX.o.cell 5 rfl;have c6:=HBX.o.cell 6 rfl;cases ab
    case true=>
     simp only [if_true] at HMA;cases ok
     ·obtain rfl:R=false:=by rw [HMA.o];rfl
      go_wp2;go_ret;exact ⟨rfl,HB0.o⟩
     by_cases g1:loc=0
     case neg=>
      have dg1:(loc == 0)=false:=by rw [Yah];exact g1
      obtain rfl:R=false:=by rw [HMA.o];simp [g1]
      clear g1;go_wp2;go_ret;exact ⟨rfl,HB0.o⟩
     subst g1;by_cases g2:n=0
     case neg=>
      have dg2:((n:Int) == 0)=false:=by rw [Yah];omega
      obtain rfl:R=false:=by rw [HMA.o];simp [g2]
      clear g2;go_wp2;go_ret;exact ⟨rfl,HB0.o⟩
     subst g2;by_cases g3:n3=0
     case neg=>
      have dg3:((n3:Int) == 0)=false:=by rw [Yah];omega
      obtain rfl:R=false:=by rw [HMA.o];simp [g3]
      clear g3;go_wp2;go_ret;exact ⟨rfl,HB0.o⟩
     subst g3;obtain rfl:R=true:=by rw [HMA.o];rfl
     go_wp2;go_ret;exact ⟨rfl,HB0.o⟩
    case false=>
     simp only [YbZ,if_false] at HMA;obtain ⟨K1,hK1⟩:∃ K,K=ok:=⟨_,rfl⟩
     rw [←hK1] at HMA;have HK1:=Hd hK1;clear hK1 c4;go_wp2
     go_loopw [3,6] (fun v3 v6 wr=>∃ (k:Nat) (o1:Bool),k<=n3/\v6=.int .i64 k/\v3=.bool o1/\o1=(K1 && (cats.take k).all (Cat.ok n))/\Below wc.heap.size wc wr) (fun _ v6 _=>n3 - (intOf v6).toNat)
     case atStart=>exact ⟨0,ok,Yai _,rfl,rfl,by rw [HK1.o];simp,Yab _ _⟩
     case round=>
      clear c1 c3 c5 c6;obtain ⟨k,o1,hk,rfl,rfl,hok1,hbw⟩:=hrel;have HO1:=Hd hok1;have HBW:=Hd hbw;have c6:=(HBX.o.below hbw).cell 6 rfl;clear hok1 hbw;by_cases hlt:k<n3
      ·have hkl:k<cats.length:=by have:=HN3.o;omega
       obtain ⟨x,hx⟩:∃ x,cats[k]? = some x:=⟨_,Yaa hkl⟩
       have hoW:=Yad (S:=fun _=>False) HBW.o;obtain ⟨b,o,v,rfl,hv,hsz,hcl⟩:=HCK.o k x hx;have HV:=Hd (CatR.st.keep hv hoW (fun _ _=>id));obtain rfl:=hv;have d0:wr.cell? ⟨b,o+k * 4,none⟩=some (.int .i64 x.fr):=hoW.cell (a:=⟨b,o+k * 4,none⟩) (hcl 0 _ rfl) id;have d1:wr.cell? ⟨b,o+k * 4+1,none⟩=some (.int .i64 x.till):=hoW.cell (a:=⟨b,o+k * 4+1,none⟩) (hcl 1 _ rfl) id;have d2:wr.cell? ⟨b,o+k * 4+2,none⟩=some (.int .i64 x.at_):=hoW.cell (a:=⟨b,o+k * 4+2,none⟩) (hcl 2 _ rfl) id;have d3:wr.cell? ⟨b,o+k * 4+3,none⟩=some (.string (S x.cls)):=hoW.cell (a:=⟨b,o+k * 4+3,none⟩) (hcl 3 _ rfl) id;clear hcl hsz;have hts:(K1 && (cats.take (k+1)).all (Cat.ok n))=(o1 && Cat.ok n x):=by rw [Zcp (Cat.ok n) cats k x hx,HO1.o,YaR]
       have HTS:=Hd hts;have HXS:=Hd (HFC.o x (Yaf hx));clear hx hkl hoW hts;have hk0:(0:Int)<=k:=by omega
       have hkn:(k:Int)<(n3:Int):=by omega
       cases o1
       ·rw [YaF] at HTS;go_wp2
        go_roundw
        case rel=>exact ⟨k+1,false,by omega,by go_num,rfl,HTS.o.symm,Zaa HBW.o _⟩
        case measure=>simp [intOf];omega
       rw [Yax] at HTS;by_cases h1:0<=x.fr
       case neg=>
        have dh1:=Yaj h1;have hcx:Cat.ok n x=false:=by unfold Cat.ok;simp [h1]
        rw [hcx] at HTS;clear hcx h1;go_wp2
        go_roundw
        case rel=>exact ⟨k+1,false,by omega,by go_num,rfl,HTS.o.symm,Zaa HBW.o _⟩
        case measure=>simp [intOf];omega
       have dh1:=Yat h1;by_cases h2:x.fr<x.till
       case neg=>
        have dh2:=Yaj h2;have hcx:Cat.ok n x=false:=by unfold Cat.ok;simp [h1,h2]
        rw [hcx] at HTS;clear hcx h1 h2;go_wp2
        go_roundw
        case rel=>exact ⟨k+1,false,by omega,by go_num,rfl,HTS.o.symm,Zaa HBW.o _⟩
        case measure=>simp [intOf];omega
       have dh2:=Yat h2;by_cases h3:x.till<=(n:Int)
       case neg=>
        have dh3:=Yaj h3;have hcx:Cat.ok n x=false:=by unfold Cat.ok;simp [h1,h2,h3]
        rw [hcx] at HTS;clear hcx h1 h2 h3;go_wp2
        go_roundw
        case rel=>exact ⟨k+1,false,by omega,by go_num,rfl,HTS.o.symm,Zaa HBW.o _⟩
        case measure=>simp [intOf];omega
       have dh3:=Yat h3;by_cases h4:0<=x.at_
       case neg=>
        have dh4:=Yaj h4;have hcx:Cat.ok n x=false:=by unfold Cat.ok;simp [h1,h2,h3,h4]
        rw [hcx] at HTS;clear hcx h1 h2 h3 h4;go_wp2
        go_roundw
        case rel=>exact ⟨k+1,false,by omega,by go_num,rfl,HTS.o.symm,Zaa HBW.o _⟩
        case measure=>simp [intOf];omega
       have dh4:=Yat h4;by_cases h5:x.at_<(n:Int)
       case neg=>
        have dh5:=Yaj h5;have hcx:Cat.ok n x=false:=by unfold Cat.ok;simp [h1,h2,h3,h4,h5]
        rw [hcx] at HTS;clear hcx h1 h2 h3 h4 h5;go_wp2
        go_roundw
        case rel=>exact ⟨k+1,false,by omega,by go_num,rfl,HTS.o.symm,Zaa HBW.o _⟩
        case measure=>simp [intOf];omega
       have dh5:=Yat h5
       go_wp2_with fail
       refine (HRC.o _ _ HXS.o).mono ?_;rintro e w1 ⟨rfl,rfl⟩;have hcx:Cat.ok n x=Zal x.cls:=by unfold Cat.ok;simp [h1,h2,h3,h4,h5]
       rw [hcx] at HTS;clear hcx h1 h2 h3 h4 h5 dh1 dh2 dh3 dh4 dh5;generalize Zal x.cls=q at HTS ⊢;go_wp2
       go_roundw
       case rel=>exact ⟨k+1,q,by omega,by go_num,rfl,HTS.o.symm,Zaa HBW.o _⟩
       case measure=>simp [intOf];omega
      ·obtain rfl:n3=k:=by omega
       rw [HN3.o,Yaw (Yac _)] at HO1;have hMA2:R=(o1 && (decide (0<n) && (decide ((n1:Int)<loc) && decide (AE=0)))):=by
        rw [HMA.o,HO1.o];generalize cats.all (Cat.ok n)=a;generalize decide (0<n)=b;generalize decide ((n1:Int)<loc)=c;generalize decide (AE=0)=d;cases K1 <;> cases a <;> cases b <;> cases c <;> cases d <;> rfl
       have HM2:=Hd hMA2;have HBE:=Hd (HB0.o.trans (HBW.o.mono HB0.o.size));have c1:=(HBX.o.below HBW.o).cell 1 rfl;have c4:=(HBX.o.below HBW.o).cell 4 rfl;have c5:=(HBX.o.below HBW.o).cell 5 rfl;clear hMA2 hlt HMA;cases o1
       ·obtain rfl:R=false:=by rw [HM2.o];rfl
        go_wp2;go_ret;exact ⟨rfl,HBE.o⟩
       by_cases g1:0<n
       case neg=>
        have i1:¬ (0<(n:Int)):=by omega
        obtain rfl:R=false:=by rw [HM2.o];simp [g1]
        clear g1;go_wp2;go_ret;exact ⟨rfl,HBE.o⟩
       have i1:0<(n:Int):=by omega
       by_cases g2:(n1:Int)<loc
       case neg=>
        have d2:=Yaj g2;obtain rfl:R=false:=by rw [HM2.o];simp [g2]
        clear g2;go_wp2;go_ret;exact ⟨rfl,HBE.o⟩
       have d2:=Yat g2;have hM3:R=decide (AE=0):=by rw [HM2.o];simp [g1,g2]
       have HM3:=Hd hM3;clear hM3 g1 HM2
       go_wp2_with fail
       refine (HAL.o _ HBW.o).mono ?_;rintro e w2 ⟨rfl,hb2⟩;have HE2:=Hd (HBE.o.trans (hb2.mono HBE.o.size));clear hb2 c1 c4 c5 c6;by_cases g3:AE=0
       ·subst g3;obtain rfl:R=true:=by rw [HM3.o];rfl
        go_wp2;go_ret;exact ⟨rfl,HE2.o⟩
       ·have dg3:((AE:Int) == 0)=false:=by rw [Yah];omega
        obtain rfl:R=false:=by rw [HM3.o];simp [g3]
        clear g3;go_wp2;go_ret;exact ⟨rfl,HE2.o⟩
def stB {α:Type} (A:α->Bool) (nm:α->List UInt8) (l:List α) (k:Nat):Bool:=(l.take k).all A && Zbu (l.map nm) k
theorem ZgO {α:Type} (A:α->Bool) (nm:α->List UInt8) (l:List α):stB A nm l 0=true:=by simp [stB,Zdo]
theorem ZgN {α:Type} (A:α->Bool) (nm:α->List UInt8) (l:List α) (k:Nat) (x:α) (h:l[k]? = some x):stB A nm l (k+1)=((stB A nm l k && A x) && !((l.take k).any fun y=>nm y == nm x)):=by
 unfold stB;rw [Zcp A l k x h,Zdn,ZeN nm l k x h];generalize (l.take k).all A=a;generalize Zbu (l.map nm) k=b;generalize A x=d;generalize ((l.take k).any fun y=>nm y == nm x)=e;cases a <;> cases b <;> cases d <;> cases e <;> rfl
def Zbp (s:List UInt8):List UInt8:=s
def ZfB (nm:List UInt8) (x:List UInt8):Bool:=Zal x && !(x == nm)
def fldA (itf:Bool) (f:Fld):Bool:=ZaC f.name && (Zaj f.kind && !itf)
def mthA (itf ab:Bool) (m:Mth):Bool:=m.ok && ((!m.abs || ab) && (!itf || m.abs))
def Zoz (c:Cls):Bool:=(!c.itf || (c.abs && decide (c.sup=objL))) && !(c.abs && c.fin)
theorem ZiW (c:Cls):c.fine=((((ZlF c && stB (ZfB c.name) Zbp c.like c.like.length) && stB (fldA c.itf) Fld.name c.flds c.flds.length) && stB (mthA c.itf c.abs) Mth.name c.mths c.mths.length) && Zoz c):=by
 rw [←Znv];have h:c.like.map Zbp=c.like:=List.map_id' _;unfold Znu ZpU fldR mthR stB Zoz ZfB fldA mthA mthB;rw [h]
theorem below_quiet {w V:World} (h:Below w.heap.size w V) (n:Nat):Below w.heap.size w (V.drewN n):=h.trans ((Zaz V n).mono h.size)
theorem ZgK {A:Nat->Prop} (c:Cls) (v:Value) (w:World) (hv:ClsR A w c v) (hfit:c.Fit) :
  Calls Tryz.prog 118 #[v] w (Said c.fine w):=by
 obtain ⟨lv,fv,mv,rfl,hl,hf,hm⟩:=hv;obtain ⟨lo,lc,rfl⟩:=hl.shape;obtain ⟨fo,fc,rfl⟩:=hf.shape;obtain ⟨mo,mc,rfl⟩:=hm.shape;have hb0:Below w.heap.size w (w.alloc (.cells #[.string (S c.name),.string (S c.sup),.slice lo c.like.length lc,.bool c.itf,.bool c.abs,.bool c.fin,.slice fo c.flds.length fc,.slice mo c.mths.length mc] 87)):=(Yab _ w).alloc (Yac _) _;have HB0:=Hd hb0;have HBX:=Hd (Box.new w #[.string (S c.name),.string (S c.sup),.slice lo c.like.length lc,.bool c.itf,.bool c.abs,.bool c.fin,.slice fo c.flds.length fc,.slice mo c.mths.length mc] 87);have HCL:=Hd (Src.elem (StrR.st.below hl hb0));have HCF:=Hd (Src.elem (FldR.st.below hf hb0));have HCM:=Hd (Src.elem (MthR.st.below hm hb0));have HMB:Hid (∀ s W,ZaA s->Calls Tryz.prog 187 #[.string (S s)] W fun e w'=>e=.returned (.bool (ZaC s))/\W=w'):=Hd (fun s W h=>Zdt s W h);have HRR:Hid (∀ s W,ZaA s->Calls Tryz.prog 127 #[.string (S s)] W fun e w'=>e=.returned (.bool (Zaj s))/\W=w'):=Hd (fun s W h=>ZbH s W h);have HRC:Hid (∀ s W,ZaA s->Calls Tryz.prog 186 #[.string (S s)] W fun e w'=>e=.returned (.bool (Zal s))/\W=w'):=Hd (fun s W h=>Zch s W h);have HMT:Hid (∀ x ∈ c.mths,x.Fit):=Hd hfit.mths;have HFL:Hid (∀ x ∈ c.like,ZaA x):=Hd hfit.like;have HFF:Hid (∀ x ∈ c.flds,ZaA x.name/\ZaA x.kind):=Hd hfit.flds;have HNA:Hid (ZaA c.name):=Hd hfit.name;have HSU:Hid (ZaA c.sup):=Hd hfit.sup;have hn1:=hfit.n1;have hn2:=hfit.n2;have hn3:=hfit.n3;have HMA:=Hd (ZiW c);clear hl hf hm hfit hb0;obtain ⟨R,hR⟩:∃ R,R=c.fine:=⟨_,rfl⟩
 rw [←hR] at HMA ⊢;obtain ⟨n1,h1⟩:∃ n,n=c.like.length:=⟨_,rfl⟩
 obtain ⟨n2,h2⟩:∃ n,n=c.flds.length:=⟨_,rfl⟩
 obtain ⟨n3,h3⟩:∃ n,n=c.mths.length:=⟨_,rfl⟩
 simp only [←h1,←h2,←h3] at HB0 HBX HCL HCF HCM HMA hn1 hn2 hn3 ⊢;have HN1:=Hd h1;have HN2:=Hd h2;have HN3:=Hd h3;obtain ⟨name,sup,like,itf,ab,fin,flds,mths⟩:=c;dsimp only at *;obtain ⟨P0,hP0⟩:∃ K,K=ZlF { name:=name,sup:=sup,like:=like,itf:=itf,abs:=ab,fin:=fin,flds:=flds,mths:=mths }:=⟨_,rfl⟩
 obtain ⟨PL,hPL⟩:∃ K,K=Zoz { name:=name,sup:=sup,like:=like,itf:=itf,abs:=ab,fin:=fin,flds:=flds,mths:=mths }:=⟨_,rfl⟩
 rw [←hP0,←hPL] at HMA;unfold ZlF at hP0;unfold Zoz at hPL;dsimp only at hP0 hPL;have HP0:=Hd hP0;have HPL:=Hd hPL;have esn:=Zae name;have ess:=Zae sup;clear hR h1 h2 h3 hP0 hPL;go_enter Tryz.func118,Tryz.ntmps118
 go_upto_region 1 with fail
 generalize w.alloc (.cells #[.string (S name),.string (S sup),.slice lo n1 lc,.bool itf,.bool ab,.bool fin,.slice fo n2 fc,.slice mo n3 mc] 87)=W0 at HB0 HBX HCL HCF HCM ⊢;obtain ⟨B,hB⟩:∃ B,B=w.heap.size:=⟨_,rfl⟩
 rw [←hB] at HBX ⊢;clear hB
 go_cut [3] (fun v3 wx=>v3=.bool P0/\wx=W0)
 case first=>
  have c0:=HBX.o.cell 0 rfl;have c1:=HBX.o.cell 1 rfl
  go_wp2_with fail
  refine (HRC.o _ _ HNA.o).mono ?_;rintro e w1 ⟨rfl,rfl⟩;generalize Zal name=a1 at HP0 ⊢;cases a1
  ·go_wp2
   go_meet
   exact ⟨by rw [HP0.o];rfl,rfl⟩
  go_wp2_with fail
  refine (HRC.o _ _ HSU.o).mono ?_;rintro e w1 ⟨rfl,rfl⟩;generalize Zal sup=a2 at HP0 ⊢;cases a2
  ·go_wp2
   go_meet
   exact ⟨by rw [HP0.o];rfl,rfl⟩
  generalize hq:(name == sup)=q at HP0 ⊢;cases q
  all_goals
   go_wp2
   go_meet
   exact ⟨by rw [HP0.o];rfl,rfl⟩
 case rest=>
  obtain ⟨rfl,rfl⟩:=hcut;go_wp2
  go_loopw [3,4] (fun v3 vi wr=>∃ (k:Nat) (ok:Bool),k<=n1/\vi=.int .i64 k/\v3=.bool ok/\ok=(P0 && stB (ZfB name) Zbp like k)/\Below wc.heap.size wc wr) (fun _ vi _=>n1 - (intOf vi).toNat)
  case atStart=>exact ⟨0,P0,Yai _,rfl,rfl,by rw [ZgO];simp,Yab _ _⟩
  case round=>
   obtain ⟨k,ok,hk,rfl,rfl,hok,hbw⟩:=hrel;have HOK:=Hd hok;have HBW:=Hd hbw;have c2:=(HBX.o.below hbw).cell 2 rfl;clear hok hbw;by_cases hlt:k<n1
   ·have hkl:k<like.length:=by have:=HN1.o;omega
    obtain ⟨x,hx⟩:∃ x,like[k]? = some x:=⟨_,Yaa hkl⟩
    have hoW:=Yad (S:=fun _=>False) HBW.o;obtain ⟨b,o,v,rfl,hv,hsz,hcl⟩:=HCL.o k x hx;have HV:=Hd (StrR.st.keep hv hoW (fun _ _=>id));obtain rfl:=hv;have d0:wr.cell? ⟨b,o+k,none⟩=some (.string (S x)):=hoW.cell (a:=⟨b,o+k,none⟩) (by have q:=hcl 0 _ rfl;rw [YaG] at q;exact q) id;clear hcl hsz;have hts:(P0 && stB (ZfB name) Zbp like (k+1))=((ok && (ZfB name) x) && !((like.take k).any fun y=>Zbp y == Zbp x)):=by
     rw [ZgN _ _ _ _ _ hx,HOK.o,YaR,YaR,YaR]
    have HTS:=Hd hts;have hmem:=Yaf hx;clear hts;have hk0:(0:Int)<=k:=by omega
    have hkn:(k:Int)<(n1:Int):=by omega
    have c0:=(HBX.o.below HBW.o).cell 0 rfl;have HXS:=Hd (HFL.o x hmem);have HCX:Hid (∀ W,Calls Tryz.prog 186 #[.string (S x)] W fun e w'=>e=.returned (.bool (Zal x))/\w'=W):=Hd (fun W=>(HRC.o x W HXS.o).mono (fun _ _ h=>⟨h.1,h.2.symm⟩));have esx:=Zae x;rw [show ZfB name x=(Zal x && !(x == name)) from rfl] at HTS;have HBX0:=HBW;have HDX:Hid (∀ W,Below wr.heap.size wr W->W.cell? ⟨b,o+k,none⟩=some (.string (S x))):=Hd (fun W hW=>(Yad (S:=fun _=>False) hW).cell d0 id);clear hx hkl hoW hmem
    go_upto_region 5 with fail
    cases ok
    ·as_aux_lemma=>
      go_quiet (fail)
      go_wp2;have HTQ:Hid ((P0 && stB (ZfB name) Zbp like (k+1))=(false && !((like.take k).any fun y=>Zbp y == Zbp x))):=Hd (by rw [HTS.o];simp);clear HTS
      go_loopw [3,5] (fun v3 vj wj=>∃ (j:Nat) (o1:Bool),j<=k/\vj=.int .i64 j/\v3=.bool o1/\o1=(false && !((like.take j).any fun y=>Zbp y == Zbp x))/\Below wr.heap.size wr wj) (fun _ vj _=>k - (intOf vj).toNat)
      case atStart=>exact ⟨0,false,Yai _,rfl,rfl,by simp,below_quiet (Yab _ _) _⟩
      case round=>
       obtain ⟨j,o1,hj,rfl,rfl,ho1,hbj⟩:=hrel;have HO1:=Hd ho1;have HBJ:=Hd hbj;have HBJ0:=Hd (Zac HBX0.o hbj);have c2:=(HBX.o.below HBJ0.o).cell 2 rfl;have dx:=HDX.o _ hbj;clear ho1 hbj;by_cases hlj:j<k
       ·have hjl:j<like.length:=by have:=HN1.o;omega
        obtain ⟨y,hy⟩:∃ y,like[j]? = some y:=⟨_,Yaa hjl⟩
        have hoJ:=Yad (S:=fun _=>False) HBJ0.o;obtain ⟨b2,o2,v2,he2,hv2,_,hcl2⟩:=HCL.o j y hy;obtain ⟨e1,e2⟩:b=b2/\o=o2:=by simpa using he2
        subst e1 e2;obtain rfl:=hv2;have dy:=hoJ.cell (a:=⟨b,o+j,none⟩) (by have q:=hcl2 0 _ rfl;rw [YaG] at q;exact q) id;have esy:=Zae y;have htj:(false && !((like.take (j+1)).any fun y=>Zbp y == Zbp x))=(o1 && !(y == x)):=by
         rw [Zah _ _ _ _ hy,HO1.o,Ybw,YaR]
         try rfl
        have HTJ:=Hd htj;clear hy hjl hoJ he2  hcl2 htj;have hj0:(0:Int)<=j:=by omega
        have hjk:(j:Int)<(k:Int):=by omega
        have hjn:(j:Int)<(n1:Int):=by omega
        cases o1
        ·rw [YaF] at HTJ
         go_wp2_with (go_quiet (fail))
         go_roundw
         case rel=>exact ⟨j+1,false,by omega,by go_num,rfl,HTJ.o.symm,below_quiet HBJ.o _⟩
         case measure=>simp [intOf];omega
        ·rw [Yax] at HTJ;generalize hp:(y == x)=p at HTJ;cases p
         all_goals
          go_wp2_with (go_quiet (fail))
          go_roundw
          case rel=>exact ⟨j+1,_,by omega,by go_num,rfl,HTJ.o.symm,below_quiet HBJ.o _⟩
          case measure=>simp [intOf];omega
       ·obtain rfl:k=j:=by omega
        rw [←HO1.o] at HTQ;clear dx;go_wp2
        go_roundw
        case rel=>exact ⟨k+1,o1,by omega,by go_num,rfl,HTQ.o.symm,Zac HBW.o HBJ.o⟩
        case measure=>simp [intOf];omega
    generalize Zal x=q1 at HCX HTS;cases q1
    ·as_aux_lemma=>
      go_quiet ((go_at_call 186;exact Calls.quiet_of_same (HCX.o _)))
      go_wp2;have HTQ:Hid ((P0 && stB (ZfB name) Zbp like (k+1))=(false && !((like.take k).any fun y=>Zbp y == Zbp x))):=Hd (by rw [HTS.o];simp);clear HTS
      go_loopw [3,5] (fun v3 vj wj=>∃ (j:Nat) (o1:Bool),j<=k/\vj=.int .i64 j/\v3=.bool o1/\o1=(false && !((like.take j).any fun y=>Zbp y == Zbp x))/\Below wr.heap.size wr wj) (fun _ vj _=>k - (intOf vj).toNat)
      case atStart=>exact ⟨0,false,Yai _,rfl,rfl,by simp,below_quiet (Yab _ _) _⟩
      case round=>
       obtain ⟨j,o1,hj,rfl,rfl,ho1,hbj⟩:=hrel;have HO1:=Hd ho1;have HBJ:=Hd hbj;have HBJ0:=Hd (Zac HBX0.o hbj);have c2:=(HBX.o.below HBJ0.o).cell 2 rfl;have dx:=HDX.o _ hbj;clear ho1 hbj;by_cases hlj:j<k
       ·have hjl:j<like.length:=by have:=HN1.o;omega
        obtain ⟨y,hy⟩:∃ y,like[j]? = some y:=⟨_,Yaa hjl⟩
        have hoJ:=Yad (S:=fun _=>False) HBJ0.o;obtain ⟨b2,o2,v2,he2,hv2,_,hcl2⟩:=HCL.o j y hy;obtain ⟨e1,e2⟩:b=b2/\o=o2:=by simpa using he2
        subst e1 e2;obtain rfl:=hv2;have dy:=hoJ.cell (a:=⟨b,o+j,none⟩) (by have q:=hcl2 0 _ rfl;rw [YaG] at q;exact q) id;have esy:=Zae y;have htj:(false && !((like.take (j+1)).any fun y=>Zbp y == Zbp x))=(o1 && !(y == x)):=by
         rw [Zah _ _ _ _ hy,HO1.o,Ybw,YaR]
         try rfl
        have HTJ:=Hd htj;clear hy hjl hoJ he2  hcl2 htj;have hj0:(0:Int)<=j:=by omega
        have hjk:(j:Int)<(k:Int):=by omega
        have hjn:(j:Int)<(n1:Int):=by omega
        cases o1
        ·rw [YaF] at HTJ
         go_wp2_with (go_quiet (fail))
         go_roundw
         case rel=>exact ⟨j+1,false,by omega,by go_num,rfl,HTJ.o.symm,below_quiet HBJ.o _⟩
         case measure=>simp [intOf];omega
        ·rw [Yax] at HTJ;generalize hp:(y == x)=p at HTJ;cases p
         all_goals
          go_wp2_with (go_quiet (fail))
          go_roundw
          case rel=>exact ⟨j+1,_,by omega,by go_num,rfl,HTJ.o.symm,below_quiet HBJ.o _⟩
          case measure=>simp [intOf];omega
       ·obtain rfl:k=j:=by omega
        rw [←HO1.o] at HTQ;clear dx;go_wp2
        go_roundw
        case rel=>exact ⟨k+1,o1,by omega,by go_num,rfl,HTQ.o.symm,Zac HBW.o HBJ.o⟩
        case measure=>simp [intOf];omega
    generalize hp:(x == name)=p at HTS;cases p
    ·as_aux_lemma=>
      go_quiet ((go_at_call 186;exact Calls.quiet_of_same (HCX.o _)))
      go_wp2;clear hp;have HTQ:Hid ((P0 && stB (ZfB name) Zbp like (k+1))=(true && !((like.take k).any fun y=>Zbp y == Zbp x))):=Hd (by rw [HTS.o];simp);clear HTS
      go_loopw [3,5] (fun v3 vj wj=>∃ (j:Nat) (o1:Bool),j<=k/\vj=.int .i64 j/\v3=.bool o1/\o1=(true && !((like.take j).any fun y=>Zbp y == Zbp x))/\Below wr.heap.size wr wj) (fun _ vj _=>k - (intOf vj).toNat)
      case atStart=>exact ⟨0,true,Yai _,rfl,rfl,by simp,below_quiet (Yab _ _) _⟩
      case round=>
       obtain ⟨j,o1,hj,rfl,rfl,ho1,hbj⟩:=hrel;have HO1:=Hd ho1;have HBJ:=Hd hbj;have HBJ0:=Hd (Zac HBX0.o hbj);have c2:=(HBX.o.below HBJ0.o).cell 2 rfl;have dx:=HDX.o _ hbj;clear ho1 hbj;by_cases hlj:j<k
       ·have hjl:j<like.length:=by have:=HN1.o;omega
        obtain ⟨y,hy⟩:∃ y,like[j]? = some y:=⟨_,Yaa hjl⟩
        have hoJ:=Yad (S:=fun _=>False) HBJ0.o;obtain ⟨b2,o2,v2,he2,hv2,_,hcl2⟩:=HCL.o j y hy;obtain ⟨e1,e2⟩:b=b2/\o=o2:=by simpa using he2
        subst e1 e2;obtain rfl:=hv2;have dy:=hoJ.cell (a:=⟨b,o+j,none⟩) (by have q:=hcl2 0 _ rfl;rw [YaG] at q;exact q) id;have esy:=Zae y;have htj:(true && !((like.take (j+1)).any fun y=>Zbp y == Zbp x))=(o1 && !(y == x)):=by
         rw [Zah _ _ _ _ hy,HO1.o,Ybw,YaR]
         try rfl
        have HTJ:=Hd htj;clear hy hjl hoJ he2  hcl2 htj;have hj0:(0:Int)<=j:=by omega
        have hjk:(j:Int)<(k:Int):=by omega
        have hjn:(j:Int)<(n1:Int):=by omega
        cases o1
        ·rw [YaF] at HTJ
         go_wp2_with (go_quiet (fail))
         go_roundw
         case rel=>exact ⟨j+1,false,by omega,by go_num,rfl,HTJ.o.symm,below_quiet HBJ.o _⟩
         case measure=>simp [intOf];omega
        ·rw [Yax] at HTJ;generalize hp:(y == x)=p at HTJ;cases p
         all_goals
          go_wp2_with (go_quiet (fail))
          go_roundw
          case rel=>exact ⟨j+1,_,by omega,by go_num,rfl,HTJ.o.symm,below_quiet HBJ.o _⟩
          case measure=>simp [intOf];omega
       ·obtain rfl:k=j:=by omega
        rw [←HO1.o] at HTQ;clear dx;go_wp2
        go_roundw
        case rel=>exact ⟨k+1,o1,by omega,by go_num,rfl,HTQ.o.symm,Zac HBW.o HBJ.o⟩
        case measure=>simp [intOf];omega
    ·as_aux_lemma=>
      go_quiet ((go_at_call 186;exact Calls.quiet_of_same (HCX.o _)))
      go_wp2;clear hp;have HTQ:Hid ((P0 && stB (ZfB name) Zbp like (k+1))=(false && !((like.take k).any fun y=>Zbp y == Zbp x))):=Hd (by rw [HTS.o];simp);clear HTS
      go_loopw [3,5] (fun v3 vj wj=>∃ (j:Nat) (o1:Bool),j<=k/\vj=.int .i64 j/\v3=.bool o1/\o1=(false && !((like.take j).any fun y=>Zbp y == Zbp x))/\Below wr.heap.size wr wj) (fun _ vj _=>k - (intOf vj).toNat)
      case atStart=>exact ⟨0,false,Yai _,rfl,rfl,by simp,below_quiet (Yab _ _) _⟩
      case round=>
       obtain ⟨j,o1,hj,rfl,rfl,ho1,hbj⟩:=hrel;have HO1:=Hd ho1;have HBJ:=Hd hbj;have HBJ0:=Hd (Zac HBX0.o hbj);have c2:=(HBX.o.below HBJ0.o).cell 2 rfl;have dx:=HDX.o _ hbj;clear ho1 hbj;by_cases hlj:j<k
       ·have hjl:j<like.length:=by have:=HN1.o;omega
        obtain ⟨y,hy⟩:∃ y,like[j]? = some y:=⟨_,Yaa hjl⟩
        have hoJ:=Yad (S:=fun _=>False) HBJ0.o;obtain ⟨b2,o2,v2,he2,hv2,_,hcl2⟩:=HCL.o j y hy;obtain ⟨e1,e2⟩:b=b2/\o=o2:=by simpa using he2
        subst e1 e2;obtain rfl:=hv2;have dy:=hoJ.cell (a:=⟨b,o+j,none⟩) (by have q:=hcl2 0 _ rfl;rw [YaG] at q;exact q) id;have esy:=Zae y;have htj:(false && !((like.take (j+1)).any fun y=>Zbp y == Zbp x))=(o1 && !(y == x)):=by
         rw [Zah _ _ _ _ hy,HO1.o,Ybw,YaR]
         try rfl
        have HTJ:=Hd htj;clear hy hjl hoJ he2  hcl2 htj;have hj0:(0:Int)<=j:=by omega
        have hjk:(j:Int)<(k:Int):=by omega
        have hjn:(j:Int)<(n1:Int):=by omega
        cases o1
        ·rw [YaF] at HTJ
         go_wp2_with (go_quiet (fail))
         go_roundw
         case rel=>exact ⟨j+1,false,by omega,by go_num,rfl,HTJ.o.symm,below_quiet HBJ.o _⟩
         case measure=>simp [intOf];omega
        ·rw [Yax] at HTJ;generalize hp:(y == x)=p at HTJ;cases p
         all_goals
          go_wp2_with (go_quiet (fail))
          go_roundw
          case rel=>exact ⟨j+1,_,by omega,by go_num,rfl,HTJ.o.symm,below_quiet HBJ.o _⟩
          case measure=>simp [intOf];omega
       ·obtain rfl:k=j:=by omega
        rw [←HO1.o] at HTQ;clear dx;go_wp2
        go_roundw
        case rel=>exact ⟨k+1,o1,by omega,by go_num,rfl,HTQ.o.symm,Zac HBW.o HBJ.o⟩
        case measure=>simp [intOf];omega
   ·obtain rfl:n1=k:=by omega
    as_aux_lemma=>
      rw [←HOK.o] at HMA;obtain ⟨P1,hP⟩:∃ K,K=ok:=⟨_,rfl⟩
      rw [←hP] at HMA;have HP1:=Hd hP;have HBP:=HBW;clear hP hlt;go_wp2;clear c2
      go_loopw [3,6] (fun v3 vi wr=>∃ (k:Nat) (ok:Bool),k<=n2/\vi=.int .i64 k/\v3=.bool ok/\ok=(P1 && stB (fldA itf) Fld.name flds k)/\Below wc.heap.size wc wr) (fun _ vi _=>n2 - (intOf vi).toNat)
      case atStart=>exact ⟨0,ok,Yai _,rfl,rfl,by rw [ZgO];rw [HP1.o];simp,HBP.o⟩
      case round=>
       obtain ⟨k,ok,hk,rfl,rfl,hok,hbw⟩:=hrel;have HOK:=Hd hok;have HBW:=Hd hbw;have c6:=(HBX.o.below hbw).cell 6 rfl;clear hok hbw;by_cases hlt:k<n2
       ·have hkl:k<flds.length:=by have:=HN2.o;omega
        obtain ⟨x,hx⟩:∃ x,flds[k]? = some x:=⟨_,Yaa hkl⟩
        have hoW:=Yad (S:=fun _=>False) HBW.o;obtain ⟨b,o,v,rfl,hv,hsz,hcl⟩:=HCF.o k x hx;have HV:=Hd (FldR.st.keep hv hoW (fun _ _=>id));obtain rfl:=hv;have d0:wr.cell? ⟨b,o+k * 3,none⟩=some (.string (S x.name)):=hoW.cell (a:=⟨b,o+k * 3,none⟩) (hcl 0 _ rfl) id;have d1:wr.cell? ⟨b,o+k * 3+1,none⟩=some (.string (S x.kind)):=hoW.cell (a:=⟨b,o+k * 3+1,none⟩) (hcl 1 _ rfl) id;have d2:wr.cell? ⟨b,o+k * 3+2,none⟩=some (.bool x.tr):=hoW.cell (a:=⟨b,o+k * 3+2,none⟩) (hcl 2 _ rfl) id;clear hcl hsz;have hts:(P1 && stB (fldA itf) Fld.name flds (k+1))=((ok && (fldA itf) x) && !((flds.take k).any fun y=>Fld.name y == Fld.name x)):=by
         rw [ZgN _ _ _ _ _ hx,HOK.o,YaR,YaR,YaR]
        have HTS:=Hd hts;have hmem:=Yaf hx;clear hts;have hk0:(0:Int)<=k:=by omega
        have hkn:(k:Int)<(n2:Int):=by omega
        have c3:=(HBX.o.below HBW.o).cell 3 rfl;have HXS:=Hd (HFF.o x hmem);have HCX:Hid (Calls Tryz.prog 187 #[.string (S x.name)] wr fun e w'=>e=.returned (.bool (ZaC x.name))/\wr=w'):=Hd (HMB.o x.name wr HXS.o.1);have HCY:Hid (Calls Tryz.prog 127 #[.string (S x.kind)] wr fun e w'=>e=.returned (.bool (Zaj x.kind))/\wr=w'):=Hd (HRR.o x.kind wr HXS.o.2);have esx:=Zae x.name;rw [show fldA itf x=(ZaC x.name && (Zaj x.kind && !itf)) from rfl] at HTS;have HBX0:=HBW;have HDX:Hid (∀ W,Below wr.heap.size wr W->W.cell? ⟨b,o+k * 3,none⟩=some (.string (S x.name))):=Hd (fun W hW=>(Yad (S:=fun _=>False) hW).cell d0 id);clear hx hkl hoW hmem;cases ok
        ·as_aux_lemma=>
          go_wp2;have HTQ:Hid ((P1 && stB (fldA itf) Fld.name flds (k+1))=(false && !((flds.take k).any fun y=>Fld.name y == Fld.name x))):=Hd (by rw [HTS.o];simp);clear HTS
          go_loopw [3,7] (fun v3 vj wj=>∃ (j:Nat) (o1:Bool),j<=k/\vj=.int .i64 j/\v3=.bool o1/\o1=(false && !((flds.take j).any fun y=>Fld.name y == Fld.name x))/\Below wr.heap.size wr wj) (fun _ vj _=>k - (intOf vj).toNat)
          case atStart=>exact ⟨0,false,Yai _,rfl,rfl,by simp,Yab _ _⟩
          case round=>
           obtain ⟨j,o1,hj,rfl,rfl,ho1,hbj⟩:=hrel;have HO1:=Hd ho1;have HBJ:=Hd hbj;have HBJ0:=Hd (Zac HBX0.o hbj);have c6:=(HBX.o.below HBJ0.o).cell 6 rfl;have dx:=HDX.o _ hbj;clear ho1 hbj;by_cases hlj:j<k
           ·have hjl:j<flds.length:=by have:=HN2.o;omega
            obtain ⟨y,hy⟩:∃ y,flds[j]? = some y:=⟨_,Yaa hjl⟩
            have hoJ:=Yad (S:=fun _=>False) HBJ0.o;obtain ⟨b2,o2,v2,he2,hv2,_,hcl2⟩:=HCF.o j y hy;obtain ⟨e1,e2⟩:b=b2/\o=o2:=by simpa using he2
            subst e1 e2;obtain rfl:=hv2;have dy:=hoJ.cell (a:=⟨b,o+j * 3,none⟩) (hcl2 0 _ rfl) id;have esy:=Zae y.name;have htj:(false && !((flds.take (j+1)).any fun y=>Fld.name y == Fld.name x))=(o1 && !(y.name == x.name)):=by
             rw [Zah _ _ _ _ hy,HO1.o,Ybw,YaR]
             try rfl
            have HTJ:=Hd htj;clear hy hjl hoJ he2  hcl2 htj;have hj0:(0:Int)<=j:=by omega
            have hjk:(j:Int)<(k:Int):=by omega
            have hjn:(j:Int)<(n2:Int):=by omega
            cases o1
            ·rw [YaF] at HTJ
             go_wp2_with (go_quiet (fail))
             go_roundw
             case rel=>exact ⟨j+1,false,by omega,by go_num,rfl,HTJ.o.symm,below_quiet HBJ.o _⟩
             case measure=>simp [intOf];omega
            ·rw [Yax] at HTJ;generalize hp:(y.name == x.name)=p at HTJ;cases p
             all_goals
              go_wp2_with (go_quiet (fail))
              go_roundw
              case rel=>exact ⟨j+1,_,by omega,by go_num,rfl,HTJ.o.symm,below_quiet HBJ.o _⟩
              case measure=>simp [intOf];omega
           ·obtain rfl:k=j:=by omega
            rw [←HO1.o] at HTQ;clear dx;go_wp2
            go_roundw
            case rel=>exact ⟨k+1,o1,by omega,by go_num,rfl,HTQ.o.symm,Zac HBW.o HBJ.o⟩
            case measure=>simp [intOf];omega
        generalize ZaC x.name=q1 at HCX HTS
        go_wp2_with fail
        refine HCX.o.mono ?_;rintro e w1 ⟨rfl,rfl⟩;cases q1
        ·as_aux_lemma=>
          go_wp2;have HTQ:Hid ((P1 && stB (fldA itf) Fld.name flds (k+1))=(false && !((flds.take k).any fun y=>Fld.name y == Fld.name x))):=Hd (by rw [HTS.o];simp);clear HTS
          go_loopw [3,7] (fun v3 vj wj=>∃ (j:Nat) (o1:Bool),j<=k/\vj=.int .i64 j/\v3=.bool o1/\o1=(false && !((flds.take j).any fun y=>Fld.name y == Fld.name x))/\Below wr.heap.size wr wj) (fun _ vj _=>k - (intOf vj).toNat)
          case atStart=>exact ⟨0,false,Yai _,rfl,rfl,by simp,Yab _ _⟩
          case round=>
           obtain ⟨j,o1,hj,rfl,rfl,ho1,hbj⟩:=hrel;have HO1:=Hd ho1;have HBJ:=Hd hbj;have HBJ0:=Hd (Zac HBX0.o hbj);have c6:=(HBX.o.below HBJ0.o).cell 6 rfl;have dx:=HDX.o _ hbj;clear ho1 hbj;by_cases hlj:j<k
           ·have hjl:j<flds.length:=by have:=HN2.o;omega
            obtain ⟨y,hy⟩:∃ y,flds[j]? = some y:=⟨_,Yaa hjl⟩
            have hoJ:=Yad (S:=fun _=>False) HBJ0.o;obtain ⟨b2,o2,v2,he2,hv2,_,hcl2⟩:=HCF.o j y hy;obtain ⟨e1,e2⟩:b=b2/\o=o2:=by simpa using he2
            subst e1 e2;obtain rfl:=hv2;have dy:=hoJ.cell (a:=⟨b,o+j * 3,none⟩) (hcl2 0 _ rfl) id;have esy:=Zae y.name;have htj:(false && !((flds.take (j+1)).any fun y=>Fld.name y == Fld.name x))=(o1 && !(y.name == x.name)):=by
             rw [Zah _ _ _ _ hy,HO1.o,Ybw,YaR]
             try rfl
            have HTJ:=Hd htj;clear hy hjl hoJ he2  hcl2 htj;have hj0:(0:Int)<=j:=by omega
            have hjk:(j:Int)<(k:Int):=by omega
            have hjn:(j:Int)<(n2:Int):=by omega
            cases o1
            ·rw [YaF] at HTJ
             go_wp2_with (go_quiet (fail))
             go_roundw
             case rel=>exact ⟨j+1,false,by omega,by go_num,rfl,HTJ.o.symm,below_quiet HBJ.o _⟩
             case measure=>simp [intOf];omega
            ·rw [Yax] at HTJ;generalize hp:(y.name == x.name)=p at HTJ;cases p
             all_goals
              go_wp2_with (go_quiet (fail))
              go_roundw
              case rel=>exact ⟨j+1,_,by omega,by go_num,rfl,HTJ.o.symm,below_quiet HBJ.o _⟩
              case measure=>simp [intOf];omega
           ·obtain rfl:k=j:=by omega
            rw [←HO1.o] at HTQ;clear dx;go_wp2
            go_roundw
            case rel=>exact ⟨k+1,o1,by omega,by go_num,rfl,HTQ.o.symm,Zac HBW.o HBJ.o⟩
            case measure=>simp [intOf];omega
        generalize Zaj x.kind=q2 at HCY HTS
        go_wp2_with fail
        refine HCY.o.mono ?_;rintro e w1 ⟨rfl,rfl⟩;cases q2
        ·as_aux_lemma=>
          go_wp2;have HTQ:Hid ((P1 && stB (fldA itf) Fld.name flds (k+1))=(false && !((flds.take k).any fun y=>Fld.name y == Fld.name x))):=Hd (by rw [HTS.o];simp);clear HTS
          go_loopw [3,7] (fun v3 vj wj=>∃ (j:Nat) (o1:Bool),j<=k/\vj=.int .i64 j/\v3=.bool o1/\o1=(false && !((flds.take j).any fun y=>Fld.name y == Fld.name x))/\Below wr.heap.size wr wj) (fun _ vj _=>k - (intOf vj).toNat)
          case atStart=>exact ⟨0,false,Yai _,rfl,rfl,by simp,Yab _ _⟩
          case round=>
           obtain ⟨j,o1,hj,rfl,rfl,ho1,hbj⟩:=hrel;have HO1:=Hd ho1;have HBJ:=Hd hbj;have HBJ0:=Hd (Zac HBX0.o hbj);have c6:=(HBX.o.below HBJ0.o).cell 6 rfl;have dx:=HDX.o _ hbj;clear ho1 hbj;by_cases hlj:j<k
           ·have hjl:j<flds.length:=by have:=HN2.o;omega
            obtain ⟨y,hy⟩:∃ y,flds[j]? = some y:=⟨_,Yaa hjl⟩
            have hoJ:=Yad (S:=fun _=>False) HBJ0.o;obtain ⟨b2,o2,v2,he2,hv2,_,hcl2⟩:=HCF.o j y hy;obtain ⟨e1,e2⟩:b=b2/\o=o2:=by simpa using he2
            subst e1 e2;obtain rfl:=hv2;have dy:=hoJ.cell (a:=⟨b,o+j * 3,none⟩) (hcl2 0 _ rfl) id;have esy:=Zae y.name;have htj:(false && !((flds.take (j+1)).any fun y=>Fld.name y == Fld.name x))=(o1 && !(y.name == x.name)):=by
             rw [Zah _ _ _ _ hy,HO1.o,Ybw,YaR]
             try rfl
            have HTJ:=Hd htj;clear hy hjl hoJ he2  hcl2 htj;have hj0:(0:Int)<=j:=by omega
            have hjk:(j:Int)<(k:Int):=by omega
            have hjn:(j:Int)<(n2:Int):=by omega
            cases o1
            ·rw [YaF] at HTJ
             go_wp2_with (go_quiet (fail))
             go_roundw
             case rel=>exact ⟨j+1,false,by omega,by go_num,rfl,HTJ.o.symm,below_quiet HBJ.o _⟩
             case measure=>simp [intOf];omega
            ·rw [Yax] at HTJ;generalize hp:(y.name == x.name)=p at HTJ;cases p
             all_goals
              go_wp2_with (go_quiet (fail))
              go_roundw
              case rel=>exact ⟨j+1,_,by omega,by go_num,rfl,HTJ.o.symm,below_quiet HBJ.o _⟩
              case measure=>simp [intOf];omega
           ·obtain rfl:k=j:=by omega
            rw [←HO1.o] at HTQ;clear dx;go_wp2
            go_roundw
            case rel=>exact ⟨k+1,o1,by omega,by go_num,rfl,HTQ.o.symm,Zac HBW.o HBJ.o⟩
            case measure=>simp [intOf];omega
        as_aux_lemma=>
          go_wp2;have HTQ:Hid ((P1 && stB (fldA itf) Fld.name flds (k+1))=((!itf) && !((flds.take k).any fun y=>Fld.name y == Fld.name x))):=Hd (by rw [HTS.o];simp);clear HTS
          go_loopw [3,7] (fun v3 vj wj=>∃ (j:Nat) (o1:Bool),j<=k/\vj=.int .i64 j/\v3=.bool o1/\o1=((!itf) && !((flds.take j).any fun y=>Fld.name y == Fld.name x))/\Below wr.heap.size wr wj) (fun _ vj _=>k - (intOf vj).toNat)
          case atStart=>exact ⟨0,(!itf),Yai _,rfl,rfl,by simp,Yab _ _⟩
          case round=>
           obtain ⟨j,o1,hj,rfl,rfl,ho1,hbj⟩:=hrel;have HO1:=Hd ho1;have HBJ:=Hd hbj;have HBJ0:=Hd (Zac HBX0.o hbj);have c6:=(HBX.o.below HBJ0.o).cell 6 rfl;have dx:=HDX.o _ hbj;clear ho1 hbj;by_cases hlj:j<k
           ·have hjl:j<flds.length:=by have:=HN2.o;omega
            obtain ⟨y,hy⟩:∃ y,flds[j]? = some y:=⟨_,Yaa hjl⟩
            have hoJ:=Yad (S:=fun _=>False) HBJ0.o;obtain ⟨b2,o2,v2,he2,hv2,_,hcl2⟩:=HCF.o j y hy;obtain ⟨e1,e2⟩:b=b2/\o=o2:=by simpa using he2
            subst e1 e2;obtain rfl:=hv2;have dy:=hoJ.cell (a:=⟨b,o+j * 3,none⟩) (hcl2 0 _ rfl) id;have esy:=Zae y.name;have htj:((!itf) && !((flds.take (j+1)).any fun y=>Fld.name y == Fld.name x))=(o1 && !(y.name == x.name)):=by
             rw [Zah _ _ _ _ hy,HO1.o,Ybw,YaR]
             try rfl
            have HTJ:=Hd htj;clear hy hjl hoJ he2  hcl2 htj;have hj0:(0:Int)<=j:=by omega
            have hjk:(j:Int)<(k:Int):=by omega
            have hjn:(j:Int)<(n2:Int):=by omega
            cases o1
            ·rw [YaF] at HTJ
             go_wp2_with (go_quiet (fail))
             go_roundw
             case rel=>exact ⟨j+1,false,by omega,by go_num,rfl,HTJ.o.symm,below_quiet HBJ.o _⟩
             case measure=>simp [intOf];omega
            ·rw [Yax] at HTJ;generalize hp:(y.name == x.name)=p at HTJ;cases p
             all_goals
              go_wp2_with (go_quiet (fail))
              go_roundw
              case rel=>exact ⟨j+1,_,by omega,by go_num,rfl,HTJ.o.symm,below_quiet HBJ.o _⟩
              case measure=>simp [intOf];omega
           ·obtain rfl:k=j:=by omega
            rw [←HO1.o] at HTQ;clear dx;go_wp2
            go_roundw
            case rel=>exact ⟨k+1,o1,by omega,by go_num,rfl,HTQ.o.symm,Zac HBW.o HBJ.o⟩
            case measure=>simp [intOf];omega
       ·obtain rfl:n2=k:=by omega
        as_aux_lemma=>
          rw [←HOK.o] at HMA;obtain ⟨P2,hP⟩:∃ K,K=ok:=⟨_,rfl⟩
          rw [←hP] at HMA;have HP2:=Hd hP;have HBP:=HBW;clear hP hlt;go_wp2;clear c6
          go_loopw [3,8] (fun v3 vi wr=>∃ (k:Nat) (ok:Bool),k<=n3/\vi=.int .i64 k/\v3=.bool ok/\ok=(P2 && stB (mthA itf ab) Mth.name mths k)/\Below wc.heap.size wc wr) (fun _ vi _=>n3 - (intOf vi).toNat)
          case atStart=>exact ⟨0,ok,Yai _,rfl,rfl,by rw [ZgO];rw [HP2.o];simp,HBP.o⟩
          case round=>
           obtain ⟨k,ok,hk,rfl,rfl,hok,hbw⟩:=hrel;have HOK:=Hd hok;have HBW:=Hd hbw;have c7:=(HBX.o.below hbw).cell 7 rfl;clear hok hbw;by_cases hlt:k<n3
           ·have hkl:k<mths.length:=by have:=HN3.o;omega
            obtain ⟨x,hx⟩:∃ x,mths[k]? = some x:=⟨_,Yaa hkl⟩
            have hoW:=Yad (S:=fun _=>False) HBW.o;obtain ⟨b,o,v,rfl,hv,hsz,hcl⟩:=HCM.o k x hx;have HV:=Hd (MthR.st.keep hv hoW (fun _ _=>id));obtain ⟨_,_,_,rfl,⟨po,pc,rfl⟩,⟨co,cc,rfl⟩,⟨ko,kc,rfl⟩⟩:=Zam hv;have d0:wr.cell? ⟨b,o+k * 7,none⟩=some (.string (S x.name)):=hoW.cell (a:=⟨b,o+k * 7,none⟩) (hcl 0 _ rfl) id;have d1:wr.cell? ⟨b,o+k * 7+1,none⟩=some (.slice po x.params.length pc):=hoW.cell (a:=⟨b,o+k * 7+1,none⟩) (hcl 1 _ rfl) id;have d2:wr.cell? ⟨b,o+k * 7+2,none⟩=some (.string (S x.res)):=hoW.cell (a:=⟨b,o+k * 7+2,none⟩) (hcl 2 _ rfl) id;have d3:wr.cell? ⟨b,o+k * 7+3,none⟩=some (.bool x.abs):=hoW.cell (a:=⟨b,o+k * 7+3,none⟩) (hcl 3 _ rfl) id;have d4:wr.cell? ⟨b,o+k * 7+4,none⟩=some (.int .i64 x.loc):=hoW.cell (a:=⟨b,o+k * 7+4,none⟩) (hcl 4 _ rfl) id;have d5:wr.cell? ⟨b,o+k * 7+5,none⟩=some (.slice co x.code.length cc):=hoW.cell (a:=⟨b,o+k * 7+5,none⟩) (hcl 5 _ rfl) id;have d6:wr.cell? ⟨b,o+k * 7+6,none⟩=some (.slice ko x.cats.length kc):=hoW.cell (a:=⟨b,o+k * 7+6,none⟩) (hcl 6 _ rfl) id;clear hcl hsz;have hts:(P2 && stB (mthA itf ab) Mth.name mths (k+1))=((ok && (mthA itf ab) x) && !((mths.take k).any fun y=>Mth.name y == Mth.name x)):=by
             rw [ZgN _ _ _ _ _ hx,HOK.o,YaR,YaR,YaR]
            have HTS:=Hd hts;have hmem:=Yaf hx;clear hts;have hk0:(0:Int)<=k:=by omega
            have hkn:(k:Int)<(n3:Int):=by omega
            have HXF:=Hd (HMT.o x hmem);have HBA:=Hd (show Below wr.heap.size wr (wr.alloc (.cells #[.string (S x.name),.slice po x.params.length pc,.string (S x.res),.bool x.abs,.int .i64 x.loc,.slice co x.code.length cc,.slice ko x.cats.length kc] 44)) from (Yab _ wr).alloc (Yac _) _);have HBM:=Hd (Box.new wr #[.string (S x.name),.slice po x.params.length pc,.string (S x.res),.bool x.abs,.int .i64 x.loc,.slice co x.code.length cc,.slice ko x.cats.length kc] 44);have HMC:=Hd (ZgI (A:=A) x _ (wr.alloc (.cells #[.string (S x.name),.slice po x.params.length pc,.string (S x.res),.bool x.abs,.int .i64 x.loc,.slice co x.code.length cc,.slice ko x.cats.length kc] 44)) (MthR.st.keep HV.o ((Yan (fun _=>False) wr).alloc _) (fun _ _=>id)) HXF.o);have esx:=Zae x.name;rw [show mthA itf ab x=(x.ok && ((!x.abs || ab) && (!itf || x.abs))) from rfl] at HTS;clear hx hkl hoW hmem
            go_upto_region 22 with fail
            generalize wr.alloc (.cells #[.string (S x.name),.slice po x.params.length pc,.string (S x.res),.bool x.abs,.int .i64 x.loc,.slice co x.code.length cc,.slice ko x.cats.length kc] 44)=W2 at HBA HBM HMC ⊢;generalize wr.heap.size=M at HBM ⊢;clear d0 d1 d2 d3 d4 d5 d6 c7;have HB2:=Hd (Zac HBW.o HBA.o);cases ok
            ·as_aux_lemma=>
              have HBX0:=HB2;have HM3:=HBM;go_wp2;have HDX:Hid (∀ W,Below W2.heap.size W2 W->W.cell? ⟨M,0,none⟩=some (.string (S x.name))):=Hd (fun W hW=>(HM3.o.below hW).cell 0 rfl);have HTQ:Hid ((P2 && stB (mthA itf ab) Mth.name mths (k+1))=(false && !((mths.take k).any fun y=>Mth.name y == Mth.name x))):=Hd (by rw [HTS.o];simp);clear HTS
              go_loopw [3,10] (fun v3 vj wj=>∃ (j:Nat) (o1:Bool),j<=k/\vj=.int .i64 j/\v3=.bool o1/\o1=(false && !((mths.take j).any fun y=>Mth.name y == Mth.name x))/\Below W2.heap.size W2 wj) (fun _ vj _=>k - (intOf vj).toNat)
              case atStart=>exact ⟨0,false,Yai _,rfl,rfl,by simp,Yab _ _⟩
              case round=>
               obtain ⟨j,o1,hj,rfl,rfl,ho1,hbj⟩:=hrel;have HO1:=Hd ho1;have HBJ:=Hd hbj;have HBJ0:=Hd (Zac HBX0.o hbj);have c7:=(HBX.o.below HBJ0.o).cell 7 rfl;have dx:=HDX.o _ hbj;clear ho1 hbj;by_cases hlj:j<k
               ·have hjl:j<mths.length:=by have:=HN3.o;omega
                obtain ⟨y,hy⟩:∃ y,mths[j]? = some y:=⟨_,Yaa hjl⟩
                have hoJ:=Yad (S:=fun _=>False) HBJ0.o;obtain ⟨b2,o2,v2,he2,hv2,_,hcl2⟩:=HCM.o j y hy;obtain ⟨e1,e2⟩:b=b2/\o=o2:=by simpa using he2
                subst e1 e2;obtain ⟨_,_,_,rfl,_⟩:=Zam hv2;have dy:=hoJ.cell (a:=⟨b,o+j * 7,none⟩) (hcl2 0 _ rfl) id;have esy:=Zae y.name;have htj:(false && !((mths.take (j+1)).any fun y=>Mth.name y == Mth.name x))=(o1 && !(y.name == x.name)):=by
                 rw [Zah _ _ _ _ hy,HO1.o,Ybw,YaR]
                 try rfl
                have HTJ:=Hd htj;clear hy hjl hoJ he2 hv2 hcl2 htj;have hj0:(0:Int)<=j:=by omega
                have hjk:(j:Int)<(k:Int):=by omega
                have hjn:(j:Int)<(n3:Int):=by omega
                cases o1
                ·rw [YaF] at HTJ
                 go_wp2_with (go_quiet (fail))
                 go_roundw
                 case rel=>exact ⟨j+1,false,by omega,by go_num,rfl,HTJ.o.symm,below_quiet HBJ.o _⟩
                 case measure=>simp [intOf];omega
                ·rw [Yax] at HTJ;generalize hp:(y.name == x.name)=p at HTJ;cases p
                 all_goals
                  go_wp2_with (go_quiet (fail))
                  go_roundw
                  case rel=>exact ⟨j+1,_,by omega,by go_num,rfl,HTJ.o.symm,below_quiet HBJ.o _⟩
                  case measure=>simp [intOf];omega
               ·obtain rfl:k=j:=by omega
                rw [←HO1.o] at HTQ;clear dx;go_wp2
                go_roundw
                case rel=>exact ⟨k+1,o1,by omega,by go_num,rfl,HTQ.o.symm,Zac HBX0.o HBJ.o⟩
                case measure=>simp [intOf];omega
            have m0:=HBM.o.cell 0 rfl;have m1:=HBM.o.cell 1 rfl;have m2:=HBM.o.cell 2 rfl;have m3:=HBM.o.cell 3 rfl;have m4:=HBM.o.cell 4 rfl;have m5:=HBM.o.cell 5 rfl;have m6:=HBM.o.cell 6 rfl;generalize x.ok=q1 at HMC HTS
            go_wp2_with fail
            refine HMC.o.mono ?_;rintro e w3 ⟨rfl,hb3⟩;clear m0 m1 m2 m3 m4 m5 m6;have HBX0:=Hd (Zac HB2.o hb3);have HM3:=Hd (HBM.o.below hb3);clear hb3;have HDX:Hid (∀ W,Below w3.heap.size w3 W->W.cell? ⟨M,0,none⟩=some (.string (S x.name))):=Hd (fun W hW=>(HM3.o.below hW).cell 0 rfl);cases q1
            ·as_aux_lemma=>
              go_wp2;have HTQ:Hid ((P2 && stB (mthA itf ab) Mth.name mths (k+1))=(false && !((mths.take k).any fun y=>Mth.name y == Mth.name x))):=Hd (by rw [HTS.o];simp);clear HTS
              go_loopw [3,10] (fun v3 vj wj=>∃ (j:Nat) (o1:Bool),j<=k/\vj=.int .i64 j/\v3=.bool o1/\o1=(false && !((mths.take j).any fun y=>Mth.name y == Mth.name x))/\Below w3.heap.size w3 wj) (fun _ vj _=>k - (intOf vj).toNat)
              case atStart=>exact ⟨0,false,Yai _,rfl,rfl,by simp,Yab _ _⟩
              case round=>
               obtain ⟨j,o1,hj,rfl,rfl,ho1,hbj⟩:=hrel;have HO1:=Hd ho1;have HBJ:=Hd hbj;have HBJ0:=Hd (Zac HBX0.o hbj);have c7:=(HBX.o.below HBJ0.o).cell 7 rfl;have dx:=HDX.o _ hbj;clear ho1 hbj;by_cases hlj:j<k
               ·have hjl:j<mths.length:=by have:=HN3.o;omega
                obtain ⟨y,hy⟩:∃ y,mths[j]? = some y:=⟨_,Yaa hjl⟩
                have hoJ:=Yad (S:=fun _=>False) HBJ0.o;obtain ⟨b2,o2,v2,he2,hv2,_,hcl2⟩:=HCM.o j y hy;obtain ⟨e1,e2⟩:b=b2/\o=o2:=by simpa using he2
                subst e1 e2;obtain ⟨_,_,_,rfl,_⟩:=Zam hv2;have dy:=hoJ.cell (a:=⟨b,o+j * 7,none⟩) (hcl2 0 _ rfl) id;have esy:=Zae y.name;have htj:(false && !((mths.take (j+1)).any fun y=>Mth.name y == Mth.name x))=(o1 && !(y.name == x.name)):=by
                 rw [Zah _ _ _ _ hy,HO1.o,Ybw,YaR]
                 try rfl
                have HTJ:=Hd htj;clear hy hjl hoJ he2 hv2 hcl2 htj;have hj0:(0:Int)<=j:=by omega
                have hjk:(j:Int)<(k:Int):=by omega
                have hjn:(j:Int)<(n3:Int):=by omega
                cases o1
                ·rw [YaF] at HTJ
                 go_wp2_with (go_quiet (fail))
                 go_roundw
                 case rel=>exact ⟨j+1,false,by omega,by go_num,rfl,HTJ.o.symm,below_quiet HBJ.o _⟩
                 case measure=>simp [intOf];omega
                ·rw [Yax] at HTJ;generalize hp:(y.name == x.name)=p at HTJ;cases p
                 all_goals
                  go_wp2_with (go_quiet (fail))
                  go_roundw
                  case rel=>exact ⟨j+1,_,by omega,by go_num,rfl,HTJ.o.symm,below_quiet HBJ.o _⟩
                  case measure=>simp [intOf];omega
               ·obtain rfl:k=j:=by omega
                rw [←HO1.o] at HTQ;clear dx;go_wp2
                go_roundw
                case rel=>exact ⟨k+1,o1,by omega,by go_num,rfl,HTQ.o.symm,Zac HBX0.o HBJ.o⟩
                case measure=>simp [intOf];omega
            have m3:=HM3.o.cell 3 rfl;have c3:=(HBX.o.below HBX0.o).cell 3 rfl;have c4:=(HBX.o.below HBX0.o).cell 4 rfl;generalize x.abs=xa at m3 HTS;cases xa
            ·cases itf
             ·as_aux_lemma=>
               go_wp2;clear m3 c3 c4;have HTQ:Hid ((P2 && stB (mthA false ab) Mth.name mths (k+1))=(true && !((mths.take k).any fun y=>Mth.name y == Mth.name x))):=Hd (by rw [HTS.o];simp);clear HTS
               go_loopw [3,10] (fun v3 vj wj=>∃ (j:Nat) (o1:Bool),j<=k/\vj=.int .i64 j/\v3=.bool o1/\o1=(true && !((mths.take j).any fun y=>Mth.name y == Mth.name x))/\Below w3.heap.size w3 wj) (fun _ vj _=>k - (intOf vj).toNat)
               case atStart=>exact ⟨0,true,Yai _,rfl,rfl,by simp,Yab _ _⟩
               case round=>
                obtain ⟨j,o1,hj,rfl,rfl,ho1,hbj⟩:=hrel;have HO1:=Hd ho1;have HBJ:=Hd hbj;have HBJ0:=Hd (Zac HBX0.o hbj);have c7:=(HBX.o.below HBJ0.o).cell 7 rfl;have dx:=HDX.o _ hbj;clear ho1 hbj;by_cases hlj:j<k
                ·have hjl:j<mths.length:=by have:=HN3.o;omega
                 obtain ⟨y,hy⟩:∃ y,mths[j]? = some y:=⟨_,Yaa hjl⟩
                 have hoJ:=Yad (S:=fun _=>False) HBJ0.o;obtain ⟨b2,o2,v2,he2,hv2,_,hcl2⟩:=HCM.o j y hy;obtain ⟨e1,e2⟩:b=b2/\o=o2:=by simpa using he2
                 subst e1 e2;obtain ⟨_,_,_,rfl,_⟩:=Zam hv2;have dy:=hoJ.cell (a:=⟨b,o+j * 7,none⟩) (hcl2 0 _ rfl) id;have esy:=Zae y.name;have htj:(true && !((mths.take (j+1)).any fun y=>Mth.name y == Mth.name x))=(o1 && !(y.name == x.name)):=by
                  rw [Zah _ _ _ _ hy,HO1.o,Ybw,YaR]
                  try rfl
                 have HTJ:=Hd htj;clear hy hjl hoJ he2 hv2 hcl2 htj;have hj0:(0:Int)<=j:=by omega
                 have hjk:(j:Int)<(k:Int):=by omega
                 have hjn:(j:Int)<(n3:Int):=by omega
                 cases o1
                 ·rw [YaF] at HTJ
                  go_wp2_with (go_quiet (fail))
                  go_roundw
                  case rel=>exact ⟨j+1,false,by omega,by go_num,rfl,HTJ.o.symm,below_quiet HBJ.o _⟩
                  case measure=>simp [intOf];omega
                 ·rw [Yax] at HTJ;generalize hp:(y.name == x.name)=p at HTJ;cases p
                  all_goals
                   go_wp2_with (go_quiet (fail))
                   go_roundw
                   case rel=>exact ⟨j+1,_,by omega,by go_num,rfl,HTJ.o.symm,below_quiet HBJ.o _⟩
                   case measure=>simp [intOf];omega
                ·obtain rfl:k=j:=by omega
                 rw [←HO1.o] at HTQ;clear dx;go_wp2
                 go_roundw
                 case rel=>exact ⟨k+1,o1,by omega,by go_num,rfl,HTQ.o.symm,Zac HBX0.o HBJ.o⟩
                 case measure=>simp [intOf];omega
             ·as_aux_lemma=>
               go_wp2;clear m3 c3 c4;have HTQ:Hid ((P2 && stB (mthA true ab) Mth.name mths (k+1))=(false && !((mths.take k).any fun y=>Mth.name y == Mth.name x))):=Hd (by rw [HTS.o];simp);clear HTS
               go_loopw [3,10] (fun v3 vj wj=>∃ (j:Nat) (o1:Bool),j<=k/\vj=.int .i64 j/\v3=.bool o1/\o1=(false && !((mths.take j).any fun y=>Mth.name y == Mth.name x))/\Below w3.heap.size w3 wj) (fun _ vj _=>k - (intOf vj).toNat)
               case atStart=>exact ⟨0,false,Yai _,rfl,rfl,by simp,Yab _ _⟩
               case round=>
                obtain ⟨j,o1,hj,rfl,rfl,ho1,hbj⟩:=hrel;have HO1:=Hd ho1;have HBJ:=Hd hbj;have HBJ0:=Hd (Zac HBX0.o hbj);have c7:=(HBX.o.below HBJ0.o).cell 7 rfl;have dx:=HDX.o _ hbj;clear ho1 hbj;by_cases hlj:j<k
                ·have hjl:j<mths.length:=by have:=HN3.o;omega
                 obtain ⟨y,hy⟩:∃ y,mths[j]? = some y:=⟨_,Yaa hjl⟩
                 have hoJ:=Yad (S:=fun _=>False) HBJ0.o;obtain ⟨b2,o2,v2,he2,hv2,_,hcl2⟩:=HCM.o j y hy;obtain ⟨e1,e2⟩:b=b2/\o=o2:=by simpa using he2
                 subst e1 e2;obtain ⟨_,_,_,rfl,_⟩:=Zam hv2;have dy:=hoJ.cell (a:=⟨b,o+j * 7,none⟩) (hcl2 0 _ rfl) id;have esy:=Zae y.name;have htj:(false && !((mths.take (j+1)).any fun y=>Mth.name y == Mth.name x))=(o1 && !(y.name == x.name)):=by
                  rw [Zah _ _ _ _ hy,HO1.o,Ybw,YaR]
                  try rfl
                 have HTJ:=Hd htj;clear hy hjl hoJ he2 hv2 hcl2 htj;have hj0:(0:Int)<=j:=by omega
                 have hjk:(j:Int)<(k:Int):=by omega
                 have hjn:(j:Int)<(n3:Int):=by omega
                 cases o1
                 ·rw [YaF] at HTJ
                  go_wp2_with (go_quiet (fail))
                  go_roundw
                  case rel=>exact ⟨j+1,false,by omega,by go_num,rfl,HTJ.o.symm,below_quiet HBJ.o _⟩
                  case measure=>simp [intOf];omega
                 ·rw [Yax] at HTJ;generalize hp:(y.name == x.name)=p at HTJ;cases p
                  all_goals
                   go_wp2_with (go_quiet (fail))
                   go_roundw
                   case rel=>exact ⟨j+1,_,by omega,by go_num,rfl,HTJ.o.symm,below_quiet HBJ.o _⟩
                   case measure=>simp [intOf];omega
                ·obtain rfl:k=j:=by omega
                 rw [←HO1.o] at HTQ;clear dx;go_wp2
                 go_roundw
                 case rel=>exact ⟨k+1,o1,by omega,by go_num,rfl,HTQ.o.symm,Zac HBX0.o HBJ.o⟩
                 case measure=>simp [intOf];omega
            cases ab
            ·as_aux_lemma=>
              go_wp2;clear m3 c3 c4;have HTQ:Hid ((P2 && stB (mthA itf false) Mth.name mths (k+1))=(false && !((mths.take k).any fun y=>Mth.name y == Mth.name x))):=Hd (by rw [HTS.o];simp);clear HTS
              go_loopw [3,10] (fun v3 vj wj=>∃ (j:Nat) (o1:Bool),j<=k/\vj=.int .i64 j/\v3=.bool o1/\o1=(false && !((mths.take j).any fun y=>Mth.name y == Mth.name x))/\Below w3.heap.size w3 wj) (fun _ vj _=>k - (intOf vj).toNat)
              case atStart=>exact ⟨0,false,Yai _,rfl,rfl,by simp,Yab _ _⟩
              case round=>
               obtain ⟨j,o1,hj,rfl,rfl,ho1,hbj⟩:=hrel;have HO1:=Hd ho1;have HBJ:=Hd hbj;have HBJ0:=Hd (Zac HBX0.o hbj);have c7:=(HBX.o.below HBJ0.o).cell 7 rfl;have dx:=HDX.o _ hbj;clear ho1 hbj;by_cases hlj:j<k
               ·have hjl:j<mths.length:=by have:=HN3.o;omega
                obtain ⟨y,hy⟩:∃ y,mths[j]? = some y:=⟨_,Yaa hjl⟩
                have hoJ:=Yad (S:=fun _=>False) HBJ0.o;obtain ⟨b2,o2,v2,he2,hv2,_,hcl2⟩:=HCM.o j y hy;obtain ⟨e1,e2⟩:b=b2/\o=o2:=by simpa using he2
                subst e1 e2;obtain ⟨_,_,_,rfl,_⟩:=Zam hv2;have dy:=hoJ.cell (a:=⟨b,o+j * 7,none⟩) (hcl2 0 _ rfl) id;have esy:=Zae y.name;have htj:(false && !((mths.take (j+1)).any fun y=>Mth.name y == Mth.name x))=(o1 && !(y.name == x.name)):=by
                 rw [Zah _ _ _ _ hy,HO1.o,Ybw,YaR]
                 try rfl
                have HTJ:=Hd htj;clear hy hjl hoJ he2 hv2 hcl2 htj;have hj0:(0:Int)<=j:=by omega
                have hjk:(j:Int)<(k:Int):=by omega
                have hjn:(j:Int)<(n3:Int):=by omega
                cases o1
                ·rw [YaF] at HTJ
                 go_wp2_with (go_quiet (fail))
                 go_roundw
                 case rel=>exact ⟨j+1,false,by omega,by go_num,rfl,HTJ.o.symm,below_quiet HBJ.o _⟩
                 case measure=>simp [intOf];omega
                ·rw [Yax] at HTJ;generalize hp:(y.name == x.name)=p at HTJ;cases p
                 all_goals
                  go_wp2_with (go_quiet (fail))
                  go_roundw
                  case rel=>exact ⟨j+1,_,by omega,by go_num,rfl,HTJ.o.symm,below_quiet HBJ.o _⟩
                  case measure=>simp [intOf];omega
               ·obtain rfl:k=j:=by omega
                rw [←HO1.o] at HTQ;clear dx;go_wp2
                go_roundw
                case rel=>exact ⟨k+1,o1,by omega,by go_num,rfl,HTQ.o.symm,Zac HBX0.o HBJ.o⟩
                case measure=>simp [intOf];omega
            cases itf
            ·as_aux_lemma=>
              go_wp2;clear m3 c3 c4;have HTQ:Hid ((P2 && stB (mthA false true) Mth.name mths (k+1))=(true && !((mths.take k).any fun y=>Mth.name y == Mth.name x))):=Hd (by rw [HTS.o];simp);clear HTS
              go_loopw [3,10] (fun v3 vj wj=>∃ (j:Nat) (o1:Bool),j<=k/\vj=.int .i64 j/\v3=.bool o1/\o1=(true && !((mths.take j).any fun y=>Mth.name y == Mth.name x))/\Below w3.heap.size w3 wj) (fun _ vj _=>k - (intOf vj).toNat)
              case atStart=>exact ⟨0,true,Yai _,rfl,rfl,by simp,Yab _ _⟩
              case round=>
               obtain ⟨j,o1,hj,rfl,rfl,ho1,hbj⟩:=hrel;have HO1:=Hd ho1;have HBJ:=Hd hbj;have HBJ0:=Hd (Zac HBX0.o hbj);have c7:=(HBX.o.below HBJ0.o).cell 7 rfl;have dx:=HDX.o _ hbj;clear ho1 hbj;by_cases hlj:j<k
               ·have hjl:j<mths.length:=by have:=HN3.o;omega
                obtain ⟨y,hy⟩:∃ y,mths[j]? = some y:=⟨_,Yaa hjl⟩
                have hoJ:=Yad (S:=fun _=>False) HBJ0.o;obtain ⟨b2,o2,v2,he2,hv2,_,hcl2⟩:=HCM.o j y hy;obtain ⟨e1,e2⟩:b=b2/\o=o2:=by simpa using he2
                subst e1 e2;obtain ⟨_,_,_,rfl,_⟩:=Zam hv2;have dy:=hoJ.cell (a:=⟨b,o+j * 7,none⟩) (hcl2 0 _ rfl) id;have esy:=Zae y.name;have htj:(true && !((mths.take (j+1)).any fun y=>Mth.name y == Mth.name x))=(o1 && !(y.name == x.name)):=by
                 rw [Zah _ _ _ _ hy,HO1.o,Ybw,YaR]
                 try rfl
                have HTJ:=Hd htj;clear hy hjl hoJ he2 hv2 hcl2 htj;have hj0:(0:Int)<=j:=by omega
                have hjk:(j:Int)<(k:Int):=by omega
                have hjn:(j:Int)<(n3:Int):=by omega
                cases o1
                ·rw [YaF] at HTJ
                 go_wp2_with (go_quiet (fail))
                 go_roundw
                 case rel=>exact ⟨j+1,false,by omega,by go_num,rfl,HTJ.o.symm,below_quiet HBJ.o _⟩
                 case measure=>simp [intOf];omega
                ·rw [Yax] at HTJ;generalize hp:(y.name == x.name)=p at HTJ;cases p
                 all_goals
                  go_wp2_with (go_quiet (fail))
                  go_roundw
                  case rel=>exact ⟨j+1,_,by omega,by go_num,rfl,HTJ.o.symm,below_quiet HBJ.o _⟩
                  case measure=>simp [intOf];omega
               ·obtain rfl:k=j:=by omega
                rw [←HO1.o] at HTQ;clear dx;go_wp2
                go_roundw
                case rel=>exact ⟨k+1,o1,by omega,by go_num,rfl,HTQ.o.symm,Zac HBX0.o HBJ.o⟩
                case measure=>simp [intOf];omega
            ·as_aux_lemma=>
              go_wp2;clear m3 c3 c4;have HTQ:Hid ((P2 && stB (mthA true true) Mth.name mths (k+1))=(true && !((mths.take k).any fun y=>Mth.name y == Mth.name x))):=Hd (by rw [HTS.o];simp);clear HTS
              go_loopw [3,10] (fun v3 vj wj=>∃ (j:Nat) (o1:Bool),j<=k/\vj=.int .i64 j/\v3=.bool o1/\o1=(true && !((mths.take j).any fun y=>Mth.name y == Mth.name x))/\Below w3.heap.size w3 wj) (fun _ vj _=>k - (intOf vj).toNat)
              case atStart=>exact ⟨0,true,Yai _,rfl,rfl,by simp,Yab _ _⟩
              case round=>
               obtain ⟨j,o1,hj,rfl,rfl,ho1,hbj⟩:=hrel;have HO1:=Hd ho1;have HBJ:=Hd hbj;have HBJ0:=Hd (Zac HBX0.o hbj);have c7:=(HBX.o.below HBJ0.o).cell 7 rfl;have dx:=HDX.o _ hbj;clear ho1 hbj;by_cases hlj:j<k
               ·have hjl:j<mths.length:=by have:=HN3.o;omega
                obtain ⟨y,hy⟩:∃ y,mths[j]? = some y:=⟨_,Yaa hjl⟩
                have hoJ:=Yad (S:=fun _=>False) HBJ0.o;obtain ⟨b2,o2,v2,he2,hv2,_,hcl2⟩:=HCM.o j y hy;obtain ⟨e1,e2⟩:b=b2/\o=o2:=by simpa using he2
                subst e1 e2;obtain ⟨_,_,_,rfl,_⟩:=Zam hv2;have dy:=hoJ.cell (a:=⟨b,o+j * 7,none⟩) (hcl2 0 _ rfl) id;have esy:=Zae y.name;have htj:(true && !((mths.take (j+1)).any fun y=>Mth.name y == Mth.name x))=(o1 && !(y.name == x.name)):=by
                 rw [Zah _ _ _ _ hy,HO1.o,Ybw,YaR]
                 try rfl
                have HTJ:=Hd htj;clear hy hjl hoJ he2 hv2 hcl2 htj;have hj0:(0:Int)<=j:=by omega
                have hjk:(j:Int)<(k:Int):=by omega
                have hjn:(j:Int)<(n3:Int):=by omega
                cases o1
                ·rw [YaF] at HTJ
                 go_wp2_with (go_quiet (fail))
                 go_roundw
                 case rel=>exact ⟨j+1,false,by omega,by go_num,rfl,HTJ.o.symm,below_quiet HBJ.o _⟩
                 case measure=>simp [intOf];omega
                ·rw [Yax] at HTJ;generalize hp:(y.name == x.name)=p at HTJ;cases p
                 all_goals
                  go_wp2_with (go_quiet (fail))
                  go_roundw
                  case rel=>exact ⟨j+1,_,by omega,by go_num,rfl,HTJ.o.symm,below_quiet HBJ.o _⟩
                  case measure=>simp [intOf];omega
               ·obtain rfl:k=j:=by omega
                rw [←HO1.o] at HTQ;clear dx;go_wp2
                go_roundw
                case rel=>exact ⟨k+1,o1,by omega,by go_num,rfl,HTQ.o.symm,Zac HBX0.o HBJ.o⟩
                case measure=>simp [intOf];omega
           ·obtain rfl:n3=k:=by omega
            rw [←HOK.o] at HMA;have HBE:=Hd (HB0.o.trans (HBW.o.mono HB0.o.size));have c1:=(HBX.o.below HBW.o).cell 1 rfl;have c3:=(HBX.o.below HBW.o).cell 3 rfl;have c4:=(HBX.o.below HBW.o).cell 4 rfl;have c5:=(HBX.o.below HBW.o).cell 5 rfl;have hsl:=Zb7 sup [79,98,106,101,99,116];rw [show (decide (sup=[79,98,106,101,99,116]))=decide (sup=objL) from rfl] at hsl;generalize decide (sup=objL)=dO at hsl HPL;clear hlt ess;cases ok
            ·obtain rfl:R=false:=by rw [HMA.o];rfl
             go_wp2;go_ret;exact ⟨rfl,HBE.o⟩
            rw [Yax] at HMA;have HQ:Hid (R=((!itf || (ab && dO)) && !(ab && fin))):=Hd (by rw [HMA.o,HPL.o]);clear HMA HPL;cases itf
            ·clear hsl;cases ab
             ·obtain rfl:R=true:=by rw [HQ.o];cases fin <;> rfl
              go_wp2;go_ret;exact ⟨rfl,HBE.o⟩
             ·obtain rfl:R = !fin:=by rw [HQ.o];cases fin <;> rfl
              go_wp2;go_ret;exact ⟨rfl,HBE.o⟩
            cases ab
            ·clear hsl;obtain rfl:R=false:=by rw [HQ.o];cases dO <;> cases fin <;> rfl
             go_wp2;go_ret;exact ⟨rfl,HBE.o⟩
            cases dO
            ·obtain rfl:R=false:=by rw [HQ.o];cases fin <;> rfl
             go_wp2;go_ret;exact ⟨rfl,HBE.o⟩
            ·obtain rfl:R = !fin:=by rw [HQ.o];cases fin <;> rfl
             go_wp2;go_ret;exact ⟨rfl,HBE.o⟩
theorem ZgE {A:Nat->Prop} (c:Cls) (v:Value) (w:World) (hv:ClsR A w c v) (hfit:c.Fit) :
  Calls Tryz.prog 52 #[v] w fun e w'=>e=.returned (.int .i64 (c.e:Nat))/\Below w.heap.size w w':=by
 have hv0:=hv;obtain ⟨lv,fv,mv,rfl,hl,hf,hm⟩:=hv;obtain ⟨lo,lc,rfl⟩:=hl.shape;obtain ⟨fo,fc,rfl⟩:=hf.shape;obtain ⟨mo,mc,rfl⟩:=hm.shape;have hb0:Below w.heap.size w (w.alloc (.cells #[.string (S c.name),.string (S c.sup),.slice lo c.like.length lc,.bool c.itf,.bool c.abs,.bool c.fin,.slice fo c.flds.length fc,.slice mo c.mths.length mc] 87)):=(Yab _ w).alloc (Yac _) _;have HB0:=Hd hb0;have HBX:=Hd (Box.new w #[.string (S c.name),.string (S c.sup),.slice lo c.like.length lc,.bool c.itf,.bool c.abs,.bool c.fin,.slice fo c.flds.length fc,.slice mo c.mths.length mc] 87);have HMN:=Hd (ZiT (A:=A) c _ _ (ClsR.st.keep hv0 (Yad (S:=fun _=>False) hb0) (fun _ _=>id)) hfit);have HRI:Hid (∀ W,Below (w.alloc (.cells #[.string (S c.name),.string (S c.sup),.slice lo c.like.length lc,.bool c.itf,.bool c.abs,.bool c.fin,.slice fo c.flds.length fc,.slice mo c.mths.length mc] 87)).heap.size (w.alloc (.cells #[.string (S c.name),.string (S c.sup),.slice lo c.like.length lc,.bool c.itf,.bool c.abs,.bool c.fin,.slice fo c.flds.length fc,.slice mo c.mths.length mc] 87)) W->Calls Tryz.prog 118 #[.agg #[.string (S c.name),.string (S c.sup),.slice lo c.like.length lc,.bool c.itf,.bool c.abs,.bool c.fin,.slice fo c.flds.length fc,.slice mo c.mths.length mc]] W (Said c.fine W)):=Hd (fun W hW=>
  ZgK (A:=A) c _ W (ClsR.st.keep (ClsR.st.keep hv0 (Yad (S:=fun _=>False) hb0) (fun _ _=>id)) (Yad (S:=fun _=>False) hW) (fun _ _=>id)) hfit)
 have hE:c.e=if c.many then 51 else if c.fine then 0 else 50:=rfl
 clear hv0 hl hf hm hfit hb0;generalize c.many=m at HMN hE;generalize c.fine=f at HRI hE;rw [hE];clear hE;have c0:=HBX.o.cell 0 rfl;have c1:=HBX.o.cell 1 rfl;have c2:=HBX.o.cell 2 rfl;have c3:=HBX.o.cell 3 rfl;have c4:=HBX.o.cell 4 rfl;have c5:=HBX.o.cell 5 rfl;have c6:=HBX.o.cell 6 rfl;have c7:=HBX.o.cell 7 rfl;go_enter Tryz.func52,Tryz.ntmps52
 go_wp2_with fail
 refine HMN.o.mono ?_;rintro e w1 ⟨rfl,hb1⟩;clear c0 c1 c2 c3 c4 c5 c6 c7;have HB1:=Hd (HB0.o.trans (hb1.mono HB0.o.size));cases m
 case true=>
  clear hb1;go_wp2;go_ret;exact ⟨rfl,HB1.o⟩
 have hx:=HBX.o.below hb1;have c0:=hx.cell 0 rfl;have c1:=hx.cell 1 rfl;have c2:=hx.cell 2 rfl;have c3:=hx.cell 3 rfl;have c4:=hx.cell 4 rfl;have c5:=hx.cell 5 rfl;have c6:=hx.cell 6 rfl;have c7:=hx.cell 7 rfl;have HR1:=Hd (HRI.o w1 hb1);clear hx hb1
 go_wp2_with fail
 refine HR1.o.mono ?_;rintro e w2 ⟨rfl,hb2⟩;have HB2:=Hd (HB1.o.trans (hb2.mono HB1.o.size));clear hb2 c0 c1 c2 c3 c4 c5 c6 c7;cases f
 ·go_wp2;go_ret;exact ⟨rfl,HB2.o⟩
 ·go_wp2;go_ret;exact ⟨rfl,HB2.o⟩
attribute [local go_sem ↓] Go.wp_at_zero Go.wp_at_succ
def Zbr (x y:List UInt8):Bool:=x == y
def samB {α:Type} (p:α->α->Bool) (a b:List α):Bool:=decide (a.length=b.length) && (a.zip b).all fun q=>p q.1 q.2
def Zfp {α:Type} (p:α->α->Bool) (a b:List α) (k:Nat):Bool:=((a.zip b).take k).all fun q=>p q.1 q.2
theorem ZfZ {α:Type} (p:α->α->Bool) (a b:List α) (k:Nat) (x y:α) (hx:a[k]? = some x) (hy:b[k]? = some y):Zfp p a b (k+1)=(Zfp p a b k && p x y):=by
 unfold Zfp;rw [Zcp _ _ _ (x,y) (by rw [List.getElem?_zip_eq_some];exact ⟨hx,hy⟩)]
theorem Zjz {α:Type} (p:α->α->Bool) (a b:List α) (k:Nat) (h:Zfp p a b k=false):((a.zip b).all fun q=>p q.1 q.2)=false:=by
 unfold Zfp at h;rw [Yb2] at h ⊢;obtain ⟨q,hq,hn⟩:=h;exact ⟨q,Ybh hq,hn⟩
