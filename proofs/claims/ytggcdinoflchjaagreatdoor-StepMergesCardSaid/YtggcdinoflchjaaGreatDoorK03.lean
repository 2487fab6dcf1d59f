/- laws -/
import Derived.Test.YtggcdinoflchjaaGreatDoorK02
set_option maxRecDepth 100000
set_option maxHeartbeats 16000000
namespace Go.Proofs.YtggcdinoflchjaaGreatDoor
open Go.RowKit
def Said (b:Bool) (w:World) (e:Ending) (w':World):Prop:=e=.returned (.bool b)/\Below w.heap.size w w'
theorem Zew (p:Int->Bool) {k:Nat} {c:UInt8} (h:¬ ((97<=c.toNat/\c.toNat<=122)\/(65<=c.toNat/\c.toNat<=90)\/(48<=c.toNat/\c.toNat<=57))):okP p k c=false:=by
 unfold okP Zcl ZdJ;cases hk:(decide (97<=c.toNat) && decide (c.toNat<=122) || decide (65<=c.toNat) && decide (c.toNat<=90) || decide (48<=c.toNat) && decide (c.toNat<=57)) with
 | false=>rw [Ybv]
 | true=>
  exfalso
  apply h
  simp only [YaS,Yat,YaO] at hk;omega
theorem ZeP (p:Int->Bool) {k:Nat} {c:UInt8} (hp:k ≠ 0\/p c.toNat=true) (h:(97<=c.toNat/\c.toNat<=122)\/(65<=c.toNat/\c.toNat<=90)\/(48<=c.toNat/\c.toNat<=57)):okP p k c=true:=by
 unfold okP Zcl ZdJ;rw [Yat];constructor
 ·rcases hp with hp|hp
  ·simp [hp]
  ·simp [hp]
 ·simp only [YaS,Yat,YaO];omega
theorem ZnE (p:Int->Bool) {c:UInt8} (hp:p c.toNat=false):okP p 0 c=false:=by
 unfold okP;simp [hp]
theorem ZfM (F:Nat) (p:Int->Bool) (he:∀ args w,(callFunc F args).run Tryz.prog w=.ok (.enter F args) w)
  (hF:∀ (r:Int) (w:World),Calls Tryz.prog F #[.int .i32 r] w fun e w'=>e=.returned (.bool (p r))/\w=w') (hpl:∀ r:Int,128<=r->p r=false)
  (l:List UInt8) (w:World) (hlim:l.length<=9223372036854775807) :
  Calls Tryz.prog 205 #[.string (S l),.func (.func F) #[] #[]] w (Said (Zc8 p l) w):=by
 have hsz:((S l).size:Int)=(l.length:Int):=by rw [ZaB]
 have HPL:=Hd hpl;have HF:=Hd hF;have HE:=Hd he;clear hpl hF he;by_cases h0:l=[]
 ·subst h0;rw [Zjh];have e1:(S []).toList=[]:=Zae [];go_enter Tryz.func205,Tryz.ntmps205;go_wp2;go_ret;exact ⟨rfl,Yab _ _⟩
 have e1:(!(S l).toList.isEmpty)=true:=by rw [Zae];simp [h0]
 have e2:((S l).toList == [])=false:=by rw [Zae];simpa using h0
 by_cases h32:32<l.length
 ·rw [Zjg h32];have h32':(32:Int)<(l.length:Int):=by omega
  go_enter Tryz.func205,Tryz.ntmps205;go_wp2;go_ret;exact ⟨rfl,Yab _ _⟩
 have h32':(l.length:Int)<=32:=by omega
 have HN0:=Hd h0;clear h0;obtain ⟨n,hn⟩:∃ n,n=l.length:=⟨_,rfl⟩
 rw [←hn] at hsz h32' hlim;have HN:=Hd hn;clear hn h32;go_enter Tryz.func205,Tryz.ntmps205;go_wp2;clear e1 e2
 go_loopw [5] (fun _ w'=>∃ k:Nat,k<=n/\w'=w.iter (S l) k/\ZfN p l k=true) (fun _ w'=>n - w'.iterPos w.heap.size)
 case atStart=>exact ⟨0,Yai _,rfl,Zk0 p l⟩
 case round=>
  obtain ⟨k,hk,rfl,hok⟩:=hrel;have HOK:=Hd hok;clear hok;by_cases hlt:k<n
  ·have hkl:k<l.length:=by have:=HN.o;omega
   have hks:k<(S l).size:=by rw [ZaB];exact hkl
   obtain ⟨x,hx⟩:∃ x,x=l.getD k 0:=⟨_,rfl⟩
   have HX:=Hd hx;have hr:=ZqF l k hkl hks;have HNX:=Hd (fun ty=>run_next_any (P:=Tryz.prog) w (S l) k ty hks);rw [←hx] at hr;have HKL:=Hd hkl;clear hx hkl hks;rcases hr with ⟨h128,hd⟩|⟨h128,hr1,hr2,hd1⟩
   ·rw [hd] at HNX;clear hd;have hnx:=HNX.o;clear HNX;obtain ⟨c,hc⟩:∃ c,c=x.toNat:=⟨_,rfl⟩
    have HC:=Hd hc;rw [←hc] at hnx h128;clear hc;by_cases hk0:k=0
    ·subst hk0;have he:=HE.o;cases hpc:p (c:Int) with
     | true=>
      have HPC:=Hd hpc;clear hpc;rcases (show (65<=(c:Int)/\(c:Int)<=90)\/(97<=(c:Int)/\(c:Int)<=122)\/(48<=(c:Int)/\(c:Int)<=57)\/((c:Int)<48)\/(57<(c:Int)/\(c:Int)<65)\/(90<(c:Int)/\(c:Int)<97)\/(122<(c:Int)) by omega) with h1|h1|h1|h1|h1|h1|h1
      ·obtain ⟨h1,h2⟩:=h1
       go_wp2_with fail
       refine (HF.o _ _).mono ?_;rintro e w' ⟨rfl,rfl⟩;rw [HPC.o];clear he;go_wp2
       go_roundw
       case rel=>exact ⟨1,by omega,rfl,by rw [show 1=0+1 from rfl,ZcI,HOK.o,←HX.o,ZeP p (.inr (by rw [←HC.o];exact HPC.o)) (by rw [←HC.o];omega)];rfl⟩
       case measure=>simp;omega
      ·obtain ⟨h1,h2⟩:=h1;have d90:decide ((c:Int)<=90)=false:=by simp;omega
       go_wp2_with fail
       refine (HF.o _ _).mono ?_;rintro e w' ⟨rfl,rfl⟩;rw [HPC.o];clear he;go_wp2
       go_roundw
       case rel=>exact ⟨1,by omega,rfl,by rw [show 1=0+1 from rfl,ZcI,HOK.o,←HX.o,ZeP p (.inr (by rw [←HC.o];exact HPC.o)) (by rw [←HC.o];omega)];rfl⟩
       case measure=>simp;omega
      ·obtain ⟨h1,h2⟩:=h1
       go_wp2_with fail
       refine (HF.o _ _).mono ?_;rintro e w' ⟨rfl,rfl⟩;rw [HPC.o];clear he;go_wp2
       go_roundw
       case rel=>exact ⟨1,by omega,rfl,by rw [show 1=0+1 from rfl,ZcI,HOK.o,←HX.o,ZeP p (.inr (by rw [←HC.o];exact HPC.o)) (by rw [←HC.o];omega)];rfl⟩
       case measure=>simp;omega
      ·go_wp2_with fail
       refine (HF.o _ _).mono ?_;rintro e w' ⟨rfl,rfl⟩;rw [HPC.o];clear he;go_wp2;go_ret;exact ⟨Zao (Zbi HKL.o (by rw [←HX.o];exact Zew p (by rw [←HC.o];omega))).symm,(Yab _ _).alloc (Yac _) _⟩
      ·obtain ⟨h1,h2⟩:=h1;have d57:decide ((c:Int)<=57)=false:=by simp;omega
       go_wp2_with fail
       refine (HF.o _ _).mono ?_;rintro e w' ⟨rfl,rfl⟩;rw [HPC.o];clear he;go_wp2;go_ret;exact ⟨Zao (Zbi HKL.o (by rw [←HX.o];exact Zew p (by rw [←HC.o];omega))).symm,(Yab _ _).alloc (Yac _) _⟩
      ·obtain ⟨h1,h2⟩:=h1;have d90:decide ((c:Int)<=90)=false:=by simp;omega
       have d57:decide ((c:Int)<=57)=false:=by simp;omega
       go_wp2_with fail
       refine (HF.o _ _).mono ?_;rintro e w' ⟨rfl,rfl⟩;rw [HPC.o];clear he;go_wp2;go_ret;exact ⟨Zao (Zbi HKL.o (by rw [←HX.o];exact Zew p (by rw [←HC.o];omega))).symm,(Yab _ _).alloc (Yac _) _⟩
      ·have d90:decide ((c:Int)<=90)=false:=by simp;omega
       have d122:decide ((c:Int)<=122)=false:=by simp;omega
       have d57:decide ((c:Int)<=57)=false:=by simp;omega
       go_wp2_with fail
       refine (HF.o _ _).mono ?_;rintro e w' ⟨rfl,rfl⟩;rw [HPC.o];clear he;go_wp2;go_ret;exact ⟨Zao (Zbi HKL.o (by rw [←HX.o];exact Zew p (by rw [←HC.o];omega))).symm,(Yab _ _).alloc (Yac _) _⟩
     | false=>
      have HPC:=Hd hpc;clear hpc
      go_wp2_with fail
      refine (HF.o _ _).mono ?_;rintro e w' ⟨rfl,rfl⟩;rw [HPC.o];clear he;go_wp2;go_ret;exact ⟨Zao (Zbi HKL.o (by rw [←HX.o];exact ZnE p (by rw [←HC.o];exact HPC.o))).symm,(Yab _ _).alloc (Yac _) _⟩
    ·have hkb:((k:Int) == 0)=false:=by rw [Yah];omega
     rcases (show (65<=(c:Int)/\(c:Int)<=90)\/(97<=(c:Int)/\(c:Int)<=122)\/(48<=(c:Int)/\(c:Int)<=57)\/((c:Int)<48)\/(57<(c:Int)/\(c:Int)<65)\/(90<(c:Int)/\(c:Int)<97)\/(122<(c:Int)) by omega) with h1|h1|h1|h1|h1|h1|h1
     ·obtain ⟨h1,h2⟩:=h1;go_wp2
      go_roundw
      case rel=>exact ⟨k+1,by omega,rfl,by rw [ZcI,HOK.o,←HX.o,ZeP p (.inl hk0) (by rw [←HC.o];omega)];rfl⟩
      case measure=>simp;omega
     ·obtain ⟨h1,h2⟩:=h1;have d90:decide ((c:Int)<=90)=false:=by simp;omega
      go_wp2
      go_roundw
      case rel=>exact ⟨k+1,by omega,rfl,by rw [ZcI,HOK.o,←HX.o,ZeP p (.inl hk0) (by rw [←HC.o];omega)];rfl⟩
      case measure=>simp;omega
     ·obtain ⟨h1,h2⟩:=h1;go_wp2
      go_roundw
      case rel=>exact ⟨k+1,by omega,rfl,by rw [ZcI,HOK.o,←HX.o,ZeP p (.inl hk0) (by rw [←HC.o];omega)];rfl⟩
      case measure=>simp;omega
     ·go_wp2;go_ret;exact ⟨Zao (Zbi HKL.o (by rw [←HX.o];exact Zew p (by rw [←HC.o];omega))).symm,(Yab _ _).alloc (Yac _) _⟩
     ·obtain ⟨h1,h2⟩:=h1;have d57:decide ((c:Int)<=57)=false:=by simp;omega
      go_wp2;go_ret;exact ⟨Zao (Zbi HKL.o (by rw [←HX.o];exact Zew p (by rw [←HC.o];omega))).symm,(Yab _ _).alloc (Yac _) _⟩
     ·obtain ⟨h1,h2⟩:=h1;have d90:decide ((c:Int)<=90)=false:=by simp;omega
      have d57:decide ((c:Int)<=57)=false:=by simp;omega
      go_wp2;go_ret;exact ⟨Zao (Zbi HKL.o (by rw [←HX.o];exact Zew p (by rw [←HC.o];omega))).symm,(Yab _ _).alloc (Yac _) _⟩
     ·have d90:decide ((c:Int)<=90)=false:=by simp;omega
      have d122:decide ((c:Int)<=122)=false:=by simp;omega
      have d57:decide ((c:Int)<=57)=false:=by simp;omega
      go_wp2;go_ret;exact ⟨Zao (Zbi HKL.o (by rw [←HX.o];exact Zew p (by rw [←HC.o];omega))).symm,(Yab _ _).alloc (Yac _) _⟩
   ·have HBAD:=Hd (Zbi (p:=p) HKL.o (by rw [←HX.o];exact Zew p (by omega)));clear h128;have hnx:=HNX.o;clear HNX;generalize (Utf8.decode (S l) k).2=d at hnx hd1;generalize (Utf8.decode (S l) k).1=r at hnx hr1 hr2;have hr3:(122:Int)<(r:Int):=by omega
    have d90:decide ((r:Int)<=90)=false:=by simp;omega
    have d122:decide ((r:Int)<=122)=false:=by simp;omega
    have d57:decide ((r:Int)<=57)=false:=by simp;omega
    have HPC:=Hd (HPL.o (r:Int) (by omega));clear hr1 hr2;by_cases hk0:k=0
    ·subst hk0;have he:=HE.o
     go_wp2_with fail
     refine (HF.o _ _).mono ?_;rintro e w' ⟨rfl,rfl⟩;rw [HPC.o];clear he;go_wp2;go_ret;exact ⟨Zao HBAD.o.symm,(Yab _ _).alloc (Yac _) _⟩
    ·have hkb:((k:Int) == 0)=false:=by rw [Yah];omega
     go_wp2;go_ret;exact ⟨Zao HBAD.o.symm,(Yab _ _).alloc (Yac _) _⟩
  ·have hke:k=l.length:=by have:=HN.o;omega
   have hfin:Zc8 p l=true:=by
    unfold Zc8;rw [←hke,HOK.o,Yax];have:l ≠ []:=HN0.o;have:0<l.length:=List.length_pos_iff.2 this;simp
    omega
   have HFIN:=Hd hfin;have hnx:∀ ty,(Instr.next (.pointer (some ⟨w.heap.size,0,none⟩)) true ty).run Tryz.prog (w.iter (S l) k)=_:=fun ty=>run_next_end w (S l) k ty (by rw [ZaB];omega)
   clear hfin hke;go_wp2;go_ret;exact ⟨Zao HFIN.o.symm,(Yab _ _).alloc (Yac _) _⟩
theorem Zah {f : FuncId} {fn : Func} {c : Code} (hf : Tryz.prog.funcs[f]? = some fn) (hname : (fn.name == "runtime.NumGoroutine") = false) (hb : fn.body = some c) (args : Array Value) (w : World) : (callFunc f args).run Tryz.prog w = .ok (.enter f args) w := by
 have h1 : fn.name ≠ "runtime.NumGoroutine" := by simpa using hname
 simp [callFunc,hf,h1,hb,mark]
theorem Zpg (l:List UInt8) (w:World) (hlim:l.length<=9223372036854775807) :
  Calls Tryz.prog 205 #[.string (S l),.func (.func 206) #[] #[]] w (Said (Zak l) w):=by
 rw [←Znz];exact ZfM _ upI (Zah Tryz.func206 (by kernel_rfl) rfl) Zix (fun r h=>by unfold upI;simp;omega) l w hlim
theorem ZjZ (l:List UInt8) (w:World) (hlim:l.length<=9223372036854775807) :
  Calls Tryz.prog 205 #[.string (S l),.func (.func 233) #[] #[]] w (Said (ZaF l) w):=by
 rw [←Zny];exact ZfM _ loI (Zah Tryz.func233 (by kernel_rfl) rfl) Zia (fun r h=>by unfold loI;simp;omega) l w hlim
theorem Zpf (l:List UInt8) (w:World) (hlim:l.length<=9223372036854775807) :
  Calls Tryz.prog 205 #[.string (S l),.func (.func 238) #[] #[]] w (Said (ZbN l) w):=by
 rw [←Znx];exact ZfM _ leI (Zah Tryz.func238 (by kernel_rfl) rfl) ZkN (fun r h=>by unfold leI upI loI;simp;omega) l w hlim
theorem Zpd (l:List UInt8) (w:World) (hlim:l.length<=9223372036854775807) :
  Calls Tryz.prog 211 #[.string (S l)] w (Said (ZbN l) w):=by
 go_enter Tryz.func211,Tryz.ntmps211
 go_wp2_with fail
 refine (Zpf l w hlim).mono ?_;rintro e w' ⟨rfl,hb⟩;go_wp2;go_ret;exact ⟨rfl,hb⟩
theorem ZbZ (l:List UInt8) (w:World) (hlim:l.length<=9223372036854775807) :
  Calls Tryz.prog 149 #[.string (S l)] w (Said (Zak l) w):=by
 go_enter Tryz.func149,Tryz.ntmps149
 go_wp2_with fail
 refine (Zpg l w hlim).mono ?_;rintro e w' ⟨rfl,hb⟩;go_wp2;go_ret;exact ⟨rfl,hb⟩
theorem ZfR (l:List UInt8) (w:World) :
  Calls Tryz.prog 98 #[.string (S l)] w fun e w'=>e=.returned (.bool (Zas l))/\w=w':=by
 have e0:=Zae l;by_cases h1:l=kInt
 ·have q1:((S l).toList == [105,110,116])=true:=by rw [e0,h1];rfl
  have HP:=Hd (show Zas l=true by unfold Zas;simp [h1]);clear e0 h1;go_enter Tryz.func98,Tryz.ntmps98;go_wp2;go_ret;exact ⟨Zao HP.o.symm,rfl⟩
 have q1:((S l).toList == [105,110,116])=false:=by rw [e0,Yah];exact h1
 by_cases h2:l=Znc
 ·have q2:((S l).toList == [98,111,111,108])=true:=by rw [e0,h2];rfl
  have HP:=Hd (show Zas l=true by unfold Zas;simp [h2]);clear e0 h1 h2;go_enter Tryz.func98,Tryz.ntmps98;go_wp2;go_ret;exact ⟨Zao HP.o.symm,rfl⟩
 have q2:((S l).toList == [98,111,111,108])=false:=by rw [e0,Yah];exact h2
 have HP:=Hd (show Zas l=((S l).toList == [116,101,120,116]) by
  rw [e0];unfold Zas;rw [Yaj h1,Yaj h2,YaR,YaR,Ybg,YaO,beq_iff_eq];rfl)
 clear e0 h1 h2;go_enter Tryz.func98,Tryz.ntmps98;go_wp2;go_ret;exact ⟨Zao HP.o.symm,rfl⟩
def Zea {α:Type} (R:Zaq α) (A:Nat->Prop) (F:Nat) (caps:Array Value) (p:α->Bool) (l:List α) (w:World):Prop:=
 ∀ (k:Nat) (x:α) (v:Value) (w':World),l[k]? = some x->Below w.heap.size w w'->R A w' x v->Calls Tryz.prog F (#[v]++caps) w' (Said (p x) w')
def Zj9 (f:Bool) (w:World) (e:Ending) (w':World):Prop:=∃ z:Int,e=.returned (.int .i64 z)/\decide (0<=z)=f/\Below w.heap.size w w'
theorem ZkJ {A:Nat->Prop} (F:Nat) (caps:Array Value) (p:List UInt8->Bool) (l:List (List UInt8)) (sv:Value) (w:World) (he:∀ args w,(callFunc F args).run Tryz.prog w=.ok (.enter F args) w)
  (hs:Src 1 StrR A w sv l) (hF:Zea StrR A F caps p l w) (hlen:l.length<=9223372036854775807) :
  Calls Tryz.prog 224 #[sv,.func (.func F) #[] caps] w (Zj9 (l.any p) w):=by
 have HF:=Hd hF;have HE:=Hd he;clear hF he;rcases hs with ⟨ao,cp0,rfl,rfl⟩|⟨b,o,cap,rfl,_,hc⟩
 ·go_enter Tryz.func224,Tryz.ntmps224;go_wp2
  go_loopw [8] (fun v8 wr=>v8=.int .i64 0/\wr=w) (fun _ _=>0)
  case atStart=>exact ⟨rfl,rfl⟩
  case round=>
   obtain ⟨rfl,rfl⟩:=hrel;go_wp2;go_ret;exact ⟨-1,rfl,rfl,Yab _ _⟩
 ·have HC:=Hd hc;obtain ⟨n,hn⟩:∃ n,n=l.length:=⟨_,rfl⟩
  rw [←hn] at hlen ⊢;have HN:=Hd hn;clear hc hn;go_enter Tryz.func224,Tryz.ntmps224;go_wp2
  go_loopw [8] (fun v8 wr=>∃ k:Nat,k<=n/\v8=.int .i64 k/\(l.take k).any p=false/\Below w.heap.size w wr) (fun v8 _=>n - (intOf v8).toNat)
  case atStart=>exact ⟨0,Yai _,rfl,by simp,Yab _ _⟩
  case round=>
   obtain ⟨k,hk,rfl,hall,hbw⟩:=hrel;have HA:=Hd hall;have HB:=Hd hbw;clear hall hbw;by_cases hlt:k<n
   ·have hkl:k<l.length:=by have:=HN.o;omega
    obtain ⟨x,hx⟩:∃ x,l[k]? = some x:=⟨_,Yaa hkl⟩
    have hoW:=Yaf (S:=fun _=>False) HB.o;obtain ⟨v,hv,hsz,hcl⟩:=HC.o k x hx;have HV:=Hd (StrR.st.keep hv hoW (fun _ _=>id));obtain rfl:=hv;have d0:wr.cell? ⟨b,o+k,none⟩=some (.string (S x)):=hoW.cell (a:=⟨b,o+k,none⟩) (by have q:=hcl 0 _ rfl;rw [YaC] at q;exact q) id;clear hcl hsz;have HX:=Hd hx;have hts:=Zai p l k x hx;rw [HA.o,YaR] at hts;have HTS:=Hd hts;clear hx hkl hoW hts;have hk0:(0:Int)<=k:=by omega
    have hkn:(k:Int)<(n:Int):=by omega
    have he:=HE.o
    go_wp2_with fail
    refine (HF.o k x _ wr HX.o HB.o HV.o).mono ?_;rintro e w1 ⟨rfl,hb1⟩;have hb2:Below w.heap.size w w1:=HB.o.trans (hb1.mono HB.o.size);have HB2:=Hd hb2;clear hb1 hb2 he d0;cases hp:p x with
    | true=>
     rw [hp] at HTS;have hfin:l.any p=true:=by
      rw [YaN];exact ⟨x,Yad HX.o,hp⟩
     have HFI:=Hd hfin;clear hp hfin;go_wp2;go_ret;exact ⟨k,rfl,by rw [HFI.o];simp,HB2.o⟩
    | false=>
     rw [hp] at HTS;clear hp;go_wp2
     go_roundw
     case rel=>exact ⟨k+1,by omega,by go_num,HTS.o,HB2.o⟩
     case measure=>simp [intOf];omega
   ·obtain rfl:k=n:=by omega
    have hfin:l.any p=false:=by
     have h:=HA.o;rw [HN.o,Yay (Yac _)] at h;exact h
    have HFI:=Hd hfin;clear hfin;go_wp2;go_ret;exact ⟨-1,rfl,by rw [HFI.o];rfl,HB.o⟩
theorem Zfm {A:Nat->Prop} (F:Nat) (caps:Array Value) (p:List UInt8->Bool) (l:List (List UInt8)) (sv:Value) (w:World) (he:∀ args w,(callFunc F args).run Tryz.prog w=.ok (.enter F args) w)
  (hs:Src 1 StrR A w sv l) (hF:Zea StrR A F caps p l w) (hlen:l.length<=9223372036854775807) :
  Calls Tryz.prog 177 #[sv,.func (.func F) #[] caps] w (Said (l.any p) w):=by
 have HI:=Hd (ZkJ F caps p l sv w he hs hF hlen);obtain ⟨ao,cp,rfl⟩:=hs.shape;generalize l.any p=f at HI ⊢;generalize l.length=n at HI ⊢;clear he hs hF hlen;go_enter Tryz.func177,Tryz.ntmps177
 go_wp2_with fail
 refine HI.o.mono ?_;rintro e w1 ⟨z,rfl,hz,hb⟩;have HZ:=Hd hz;have HB:=Hd hb;clear hz hb;go_wp2;go_ret;exact ⟨Ya5 (fun q=>Ending.returned (.bool q)) HZ.o,HB.o⟩
theorem ZoF (F:Nat) (caps:Array Value) (c:Nat) (x:List UInt8) (v:Value) (r:Bool) (w:World) (he:∀ args w,(callFunc F args).run Tryz.prog w=.ok (.enter F args) w)
  (A:Nat->Prop) (w0:World) (hv:StrR A w0 x v) (hc:w.cell? ⟨c,0,none⟩=some (.func (.func F) #[] caps)) (hF:∀ w',Below w.heap.size w w'->Calls Tryz.prog F (#[v]++caps) w' (Said r w')) :
  Calls Tryz.prog 207 #[v,.pointer (some ⟨c,0,none⟩)] w (Said (!r) w):=by
 obtain rfl:=hv;have HF:=Hd hF;have hlt:c<w.heap.size:=World.block_lt_of_cell? w _ hc;clear hF;go_enter Tryz.func207,Tryz.ntmps207
 go_wp2_with fail
 refine (HF.o _ (Yab _ w)).mono ?_;rintro e w1 ⟨rfl,hb⟩;clear hc he;go_wp2;go_ret;exact ⟨rfl,hb⟩
theorem Zl7 {A:Nat->Prop} (F:Nat) (caps:Array Value) (p:List UInt8->Bool) (l:List (List UInt8)) (sv:Value) (w:World) (he:∀ args w,(callFunc F args).run Tryz.prog w=.ok (.enter F args) w)
  (hs:Src 1 StrR A w sv l) (hF:Zea StrR A F caps p l w) (hlen:l.length<=9223372036854775807) :
  Calls Tryz.prog 150 #[sv,.func (.func F) #[] caps] w (Said (l.all p) w):=by
 have hmf:∀ (fn:Fn) (first cap:Array Value) (w:World),(Instr.makeFunc fn first cap).run Tryz.prog w=.ok (.func fn first cap) w:=fun _ _ _ _=>rfl
 rw [ZcM];have HCF:Hid (∀ T:TypeId,Calls Tryz.prog 177 #[sv,.func (.func 207) #[] #[.pointer (some ⟨w.heap.size,0,none⟩)]] (w.alloc (.cells #[.func (.func F) #[] caps] T)) (Said (l.any fun x=>!p x) (w.alloc (.cells #[.func (.func F) #[] caps] T)))):=Hd (fun T=>by
  have hb0:Below w.heap.size w (w.alloc (.cells #[.func (.func F) #[] caps] T)):=(Yab _ w).alloc (Yac _) _;refine Zfm (A:=A) 207 _ (fun x=>!p x) l sv _ (Zah Tryz.func207 (by kernel_rfl) rfl) (StrR.st.below hs hb0) (fun k x v w' hx hb' hv=>?_) hlen;have hc':w'.cell? ⟨w.heap.size,0,none⟩=some (.func (.func F) #[] caps):=(Yaf (S:=fun _=>False) hb').cell (by simp) id;have hbw:Below w.heap.size w w':=hb0.trans (hb'.mono hb0.size);exact ZoF F caps w.heap.size x _ (p x) w' he A w' hv hc' (fun w'' hb''=>hF k x _ w'' hx (hbw.trans (hb''.mono hbw.size)) (StrR.st.keep hv (Yaf (S:=fun _=>False) hb'') (fun _ _=>id))))
 obtain ⟨ao,cp,rfl⟩:=hs.shape;generalize (l.any fun x=>!p x)=f at HCF ⊢;generalize l.length=n at HCF ⊢;clear he hs hF hlen;go_enter Tryz.func150,Tryz.ntmps150
 go_wp2_with fail
 refine (HCF.o _).mono ?_;rintro e w1 ⟨rfl,hb⟩;have hbw:Below w.heap.size w w1:=((Yab _ w).alloc (Yac _) _).trans (hb.mono (by simp));have HB:=Hd hbw;clear hb hbw hmf;go_wp2;go_ret;exact ⟨rfl,HB.o⟩
theorem ZkG {A:Nat->Prop} (F:Nat) (caps:Array Value) (p:Fld->Bool) (l:List (Fld)) (sv:Value) (w:World) (he:∀ args w,(callFunc F args).run Tryz.prog w=.ok (.enter F args) w)
  (hs:Src 3 FldR A w sv l) (hF:Zea FldR A F caps p l w) (hlen:l.length<=9223372036854775807) :
  Calls Tryz.prog 171 #[sv,.func (.func F) #[] caps] w (Zj9 (l.any p) w):=by
 have HF:=Hd hF;have HE:=Hd he;clear hF he;rcases hs with ⟨ao,cp0,rfl,rfl⟩|⟨b,o,cap,rfl,_,hc⟩
 ·go_enter Tryz.func171,Tryz.ntmps171;go_wp2
  go_loopw [8] (fun v8 wr=>v8=.int .i64 0/\wr=w) (fun _ _=>0)
  case atStart=>exact ⟨rfl,rfl⟩
  case round=>
   obtain ⟨rfl,rfl⟩:=hrel;go_wp2;go_ret;exact ⟨-1,rfl,rfl,Yab _ _⟩
 ·have HC:=Hd hc;obtain ⟨n,hn⟩:∃ n,n=l.length:=⟨_,rfl⟩
  rw [←hn] at hlen ⊢;have HN:=Hd hn;clear hc hn;go_enter Tryz.func171,Tryz.ntmps171;go_wp2
  go_loopw [8] (fun v8 wr=>∃ k:Nat,k<=n/\v8=.int .i64 k/\(l.take k).any p=false/\Below w.heap.size w wr) (fun v8 _=>n - (intOf v8).toNat)
  case atStart=>exact ⟨0,Yai _,rfl,by simp,Yab _ _⟩
  case round=>
   obtain ⟨k,hk,rfl,hall,hbw⟩:=hrel;have HA:=Hd hall;have HB:=Hd hbw;clear hall hbw;by_cases hlt:k<n
   ·have hkl:k<l.length:=by have:=HN.o;omega
    obtain ⟨x,hx⟩:∃ x,l[k]? = some x:=⟨_,Yaa hkl⟩
    have hoW:=Yaf (S:=fun _=>False) HB.o;obtain ⟨v,hv,hsz,hcl⟩:=HC.o k x hx;have HV:=Hd (FldR.st.keep hv hoW (fun _ _=>id));obtain rfl:=hv;have d0:wr.cell? ⟨b,o+k * 3,none⟩=some (.string (S x.name)):=hoW.cell (a:=⟨b,o+k * 3,none⟩) (hcl 0 _ rfl) id;have d1:wr.cell? ⟨b,o+k * 3+1,none⟩=some (.string (S x.kind)):=hoW.cell (a:=⟨b,o+k * 3+1,none⟩) (hcl 1 _ rfl) id;have d2:wr.cell? ⟨b,o+k * 3+2,none⟩=some (.bool x.tr):=hoW.cell (a:=⟨b,o+k * 3+2,none⟩) (hcl 2 _ rfl) id;clear hcl hsz;have HX:=Hd hx;have hts:=Zai p l k x hx;rw [HA.o,YaR] at hts;have HTS:=Hd hts;clear hx hkl hoW hts;have hk0:(0:Int)<=k:=by omega
    have hkn:(k:Int)<(n:Int):=by omega
    have he:=HE.o
    go_wp2_with fail
    refine (HF.o k x _ wr HX.o HB.o HV.o).mono ?_;rintro e w1 ⟨rfl,hb1⟩;have hb2:Below w.heap.size w w1:=HB.o.trans (hb1.mono HB.o.size);have HB2:=Hd hb2;clear hb1 hb2 he d0 d1 d2;cases hp:p x with
    | true=>
     rw [hp] at HTS;have hfin:l.any p=true:=by
      rw [YaN];exact ⟨x,Yad HX.o,hp⟩
     have HFI:=Hd hfin;clear hp hfin;go_wp2;go_ret;exact ⟨k,rfl,by rw [HFI.o];simp,HB2.o⟩
    | false=>
     rw [hp] at HTS;clear hp;go_wp2
     go_roundw
     case rel=>exact ⟨k+1,by omega,by go_num,HTS.o,HB2.o⟩
     case measure=>simp [intOf];omega
   ·obtain rfl:k=n:=by omega
    have hfin:l.any p=false:=by
     have h:=HA.o;rw [HN.o,Yay (Yac _)] at h;exact h
    have HFI:=Hd hfin;clear hfin;go_wp2;go_ret;exact ⟨-1,rfl,by rw [HFI.o];rfl,HB.o⟩
theorem ZdN {A:Nat->Prop} (F:Nat) (caps:Array Value) (p:Fld->Bool) (l:List (Fld)) (sv:Value) (w:World) (he:∀ args w,(callFunc F args).run Tryz.prog w=.ok (.enter F args) w)
  (hs:Src 3 FldR A w sv l) (hF:Zea FldR A F caps p l w) (hlen:l.length<=9223372036854775807) :
  Calls Tryz.prog 111 #[sv,.func (.func F) #[] caps] w (Said (l.any p) w):=by
 have HI:=Hd (ZkG F caps p l sv w he hs hF hlen);obtain ⟨ao,cp,rfl⟩:=hs.shape;generalize l.any p=f at HI ⊢;generalize l.length=n at HI ⊢;clear he hs hF hlen;go_enter Tryz.func111,Tryz.ntmps111
 go_wp2_with fail
 refine HI.o.mono ?_;rintro e w1 ⟨z,rfl,hz,hb⟩;have HZ:=Hd hz;have HB:=Hd hb;clear hz hb;go_wp2;go_ret;exact ⟨Ya5 (fun q=>Ending.returned (.bool q)) HZ.o,HB.o⟩
theorem ZoC (F:Nat) (caps:Array Value) (c:Nat) (x:Fld) (v:Value) (r:Bool) (w:World) (he:∀ args w,(callFunc F args).run Tryz.prog w=.ok (.enter F args) w)
  (A:Nat->Prop) (w0:World) (hv:FldR A w0 x v) (hc:w.cell? ⟨c,0,none⟩=some (.func (.func F) #[] caps)) (hF:∀ w',Below w.heap.size w w'->Calls Tryz.prog F (#[v]++caps) w' (Said r w')) :
  Calls Tryz.prog 158 #[v,.pointer (some ⟨c,0,none⟩)] w (Said (!r) w):=by
 obtain rfl:=hv;have HF:=Hd hF;have hlt:c<w.heap.size:=World.block_lt_of_cell? w _ hc;have hcA:∀ o:Obj,(w.alloc o).cell? ⟨c,0,none⟩=some (.func (.func F) #[] caps):=fun o=>((Yam (fun _=>False) w).alloc o).cell hc id
 clear hc;clear hF;go_enter Tryz.func158,Tryz.ntmps158
 go_wp2_with fail
 refine (HF.o _ ((Yab _ w).alloc (Yac _) _)).mono ?_;rintro e w1 ⟨rfl,hb⟩;clear hcA he;go_wp2;go_ret;exact ⟨rfl,((Yab _ w).alloc (Yac _) _).trans (hb.mono (by simp))⟩
theorem Zp8 {A:Nat->Prop} (F:Nat) (caps:Array Value) (p:Fld->Bool) (l:List (Fld)) (sv:Value) (w:World) (he:∀ args w,(callFunc F args).run Tryz.prog w=.ok (.enter F args) w)
  (hs:Src 3 FldR A w sv l) (hF:Zea FldR A F caps p l w) (hlen:l.length<=9223372036854775807) :
  Calls Tryz.prog 103 #[sv,.func (.func F) #[] caps] w (Said (l.all p) w):=by
 have hmf:∀ (fn:Fn) (first cap:Array Value) (w:World),(Instr.makeFunc fn first cap).run Tryz.prog w=.ok (.func fn first cap) w:=fun _ _ _ _=>rfl
 rw [ZcM];have HCF:Hid (∀ T:TypeId,Calls Tryz.prog 111 #[sv,.func (.func 158) #[] #[.pointer (some ⟨w.heap.size,0,none⟩)]] (w.alloc (.cells #[.func (.func F) #[] caps] T)) (Said (l.any fun x=>!p x) (w.alloc (.cells #[.func (.func F) #[] caps] T)))):=Hd (fun T=>by
  have hb0:Below w.heap.size w (w.alloc (.cells #[.func (.func F) #[] caps] T)):=(Yab _ w).alloc (Yac _) _;refine ZdN (A:=A) 158 _ (fun x=>!p x) l sv _ (Zah Tryz.func158 (by kernel_rfl) rfl) (FldR.st.below hs hb0) (fun k x v w' hx hb' hv=>?_) hlen;have hc':w'.cell? ⟨w.heap.size,0,none⟩=some (.func (.func F) #[] caps):=(Yaf (S:=fun _=>False) hb').cell (by simp) id;have hbw:Below w.heap.size w w':=hb0.trans (hb'.mono hb0.size);exact ZoC F caps w.heap.size x _ (p x) w' he A w' hv hc' (fun w'' hb''=>hF k x _ w'' hx (hbw.trans (hb''.mono hbw.size)) (FldR.st.keep hv (Yaf (S:=fun _=>False) hb'') (fun _ _=>id))))
 obtain ⟨ao,cp,rfl⟩:=hs.shape;generalize (l.any fun x=>!p x)=f at HCF ⊢;generalize l.length=n at HCF ⊢;clear he hs hF hlen;go_enter Tryz.func103,Tryz.ntmps103
 go_wp2_with fail
 refine (HCF.o _).mono ?_;rintro e w1 ⟨rfl,hb⟩;have hbw:Below w.heap.size w w1:=((Yab _ w).alloc (Yac _) _).trans (hb.mono (by simp));have HB:=Hd hbw;clear hb hbw hmf;go_wp2;go_ret;exact ⟨rfl,HB.o⟩
theorem ZkE {A:Nat->Prop} (F:Nat) (caps:Array Value) (p:Cat->Bool) (l:List (Cat)) (sv:Value) (w:World) (he:∀ args w,(callFunc F args).run Tryz.prog w=.ok (.enter F args) w)
  (hs:Src 4 CatR A w sv l) (hF:Zea CatR A F caps p l w) (hlen:l.length<=9223372036854775807) :
  Calls Tryz.prog 255 #[sv,.func (.func F) #[] caps] w (Zj9 (l.any p) w):=by
 have HF:=Hd hF;have HE:=Hd he;clear hF he;rcases hs with ⟨ao,cp0,rfl,rfl⟩|⟨b,o,cap,rfl,_,hc⟩
 ·go_enter Tryz.func255,Tryz.ntmps255;go_wp2
  go_loopw [8] (fun v8 wr=>v8=.int .i64 0/\wr=w) (fun _ _=>0)
  case atStart=>exact ⟨rfl,rfl⟩
  case round=>
   obtain ⟨rfl,rfl⟩:=hrel;go_wp2;go_ret;exact ⟨-1,rfl,rfl,Yab _ _⟩
 ·have HC:=Hd hc;obtain ⟨n,hn⟩:∃ n,n=l.length:=⟨_,rfl⟩
  rw [←hn] at hlen ⊢;have HN:=Hd hn;clear hc hn;go_enter Tryz.func255,Tryz.ntmps255;go_wp2
  go_loopw [8] (fun v8 wr=>∃ k:Nat,k<=n/\v8=.int .i64 k/\(l.take k).any p=false/\Below w.heap.size w wr) (fun v8 _=>n - (intOf v8).toNat)
  case atStart=>exact ⟨0,Yai _,rfl,by simp,Yab _ _⟩
  case round=>
   obtain ⟨k,hk,rfl,hall,hbw⟩:=hrel;have HA:=Hd hall;have HB:=Hd hbw;clear hall hbw;by_cases hlt:k<n
   ·have hkl:k<l.length:=by have:=HN.o;omega
    obtain ⟨x,hx⟩:∃ x,l[k]? = some x:=⟨_,Yaa hkl⟩
    have hoW:=Yaf (S:=fun _=>False) HB.o;obtain ⟨v,hv,hsz,hcl⟩:=HC.o k x hx;have HV:=Hd (CatR.st.keep hv hoW (fun _ _=>id));obtain rfl:=hv;have d0:wr.cell? ⟨b,o+k * 4,none⟩=some (.int .i64 x.fr):=hoW.cell (a:=⟨b,o+k * 4,none⟩) (hcl 0 _ rfl) id;have d1:wr.cell? ⟨b,o+k * 4+1,none⟩=some (.int .i64 x.till):=hoW.cell (a:=⟨b,o+k * 4+1,none⟩) (hcl 1 _ rfl) id;have d2:wr.cell? ⟨b,o+k * 4+2,none⟩=some (.int .i64 x.at_):=hoW.cell (a:=⟨b,o+k * 4+2,none⟩) (hcl 2 _ rfl) id;have d3:wr.cell? ⟨b,o+k * 4+3,none⟩=some (.string (S x.cls)):=hoW.cell (a:=⟨b,o+k * 4+3,none⟩) (hcl 3 _ rfl) id;clear hcl hsz;have HX:=Hd hx;have hts:=Zai p l k x hx;rw [HA.o,YaR] at hts;have HTS:=Hd hts;clear hx hkl hoW hts;have hk0:(0:Int)<=k:=by omega
    have hkn:(k:Int)<(n:Int):=by omega
    have he:=HE.o
    go_wp2_with fail
    refine (HF.o k x _ wr HX.o HB.o HV.o).mono ?_;rintro e w1 ⟨rfl,hb1⟩;have hb2:Below w.heap.size w w1:=HB.o.trans (hb1.mono HB.o.size);have HB2:=Hd hb2;clear hb1 hb2 he d0 d1 d2 d3;cases hp:p x with
    | true=>
     rw [hp] at HTS;have hfin:l.any p=true:=by
      rw [YaN];exact ⟨x,Yad HX.o,hp⟩
     have HFI:=Hd hfin;clear hp hfin;go_wp2;go_ret;exact ⟨k,rfl,by rw [HFI.o];simp,HB2.o⟩
    | false=>
     rw [hp] at HTS;clear hp;go_wp2
     go_roundw
     case rel=>exact ⟨k+1,by omega,by go_num,HTS.o,HB2.o⟩
     case measure=>simp [intOf];omega
   ·obtain rfl:k=n:=by omega
    have hfin:l.any p=false:=by
     have h:=HA.o;rw [HN.o,Yay (Yac _)] at h;exact h
    have HFI:=Hd hfin;clear hfin;go_wp2;go_ret;exact ⟨-1,rfl,by rw [HFI.o];rfl,HB.o⟩
theorem Zmh {A:Nat->Prop} (F:Nat) (caps:Array Value) (p:Cat->Bool) (l:List (Cat)) (sv:Value) (w:World) (he:∀ args w,(callFunc F args).run Tryz.prog w=.ok (.enter F args) w)
  (hs:Src 4 CatR A w sv l) (hF:Zea CatR A F caps p l w) (hlen:l.length<=9223372036854775807) :
  Calls Tryz.prog 242 #[sv,.func (.func F) #[] caps] w (Said (l.any p) w):=by
 have HI:=Hd (ZkE F caps p l sv w he hs hF hlen);obtain ⟨ao,cp,rfl⟩:=hs.shape;generalize l.any p=f at HI ⊢;generalize l.length=n at HI ⊢;clear he hs hF hlen;go_enter Tryz.func242,Tryz.ntmps242
 go_wp2_with fail
 refine HI.o.mono ?_;rintro e w1 ⟨z,rfl,hz,hb⟩;have HZ:=Hd hz;have HB:=Hd hb;clear hz hb;go_wp2;go_ret;exact ⟨Ya5 (fun q=>Ending.returned (.bool q)) HZ.o,HB.o⟩
theorem ZoB (F:Nat) (caps:Array Value) (c:Nat) (x:Cat) (v:Value) (r:Bool) (w:World) (he:∀ args w,(callFunc F args).run Tryz.prog w=.ok (.enter F args) w)
  (A:Nat->Prop) (w0:World) (hv:CatR A w0 x v) (hc:w.cell? ⟨c,0,none⟩=some (.func (.func F) #[] caps)) (hF:∀ w',Below w.heap.size w w'->Calls Tryz.prog F (#[v]++caps) w' (Said r w')) :
  Calls Tryz.prog 243 #[v,.pointer (some ⟨c,0,none⟩)] w (Said (!r) w):=by
 obtain rfl:=hv;have HF:=Hd hF;have hlt:c<w.heap.size:=World.block_lt_of_cell? w _ hc;have hcA:∀ o:Obj,(w.alloc o).cell? ⟨c,0,none⟩=some (.func (.func F) #[] caps):=fun o=>((Yam (fun _=>False) w).alloc o).cell hc id
 clear hc;clear hF;go_enter Tryz.func243,Tryz.ntmps243
 go_wp2_with fail
 refine (HF.o _ ((Yab _ w).alloc (Yac _) _)).mono ?_;rintro e w1 ⟨rfl,hb⟩;clear hcA he;go_wp2;go_ret;exact ⟨rfl,((Yab _ w).alloc (Yac _) _).trans (hb.mono (by simp))⟩
theorem Zp7 {A:Nat->Prop} (F:Nat) (caps:Array Value) (p:Cat->Bool) (l:List (Cat)) (sv:Value) (w:World) (he:∀ args w,(callFunc F args).run Tryz.prog w=.ok (.enter F args) w)
  (hs:Src 4 CatR A w sv l) (hF:Zea CatR A F caps p l w) (hlen:l.length<=9223372036854775807) :
  Calls Tryz.prog 214 #[sv,.func (.func F) #[] caps] w (Said (l.all p) w):=by
 have hmf:∀ (fn:Fn) (first cap:Array Value) (w:World),(Instr.makeFunc fn first cap).run Tryz.prog w=.ok (.func fn first cap) w:=fun _ _ _ _=>rfl
 rw [ZcM];have HCF:Hid (∀ T:TypeId,Calls Tryz.prog 242 #[sv,.func (.func 243) #[] #[.pointer (some ⟨w.heap.size,0,none⟩)]] (w.alloc (.cells #[.func (.func F) #[] caps] T)) (Said (l.any fun x=>!p x) (w.alloc (.cells #[.func (.func F) #[] caps] T)))):=Hd (fun T=>by
  have hb0:Below w.heap.size w (w.alloc (.cells #[.func (.func F) #[] caps] T)):=(Yab _ w).alloc (Yac _) _;refine Zmh (A:=A) 243 _ (fun x=>!p x) l sv _ (Zah Tryz.func243 (by kernel_rfl) rfl) (CatR.st.below hs hb0) (fun k x v w' hx hb' hv=>?_) hlen;have hc':w'.cell? ⟨w.heap.size,0,none⟩=some (.func (.func F) #[] caps):=(Yaf (S:=fun _=>False) hb').cell (by simp) id;have hbw:Below w.heap.size w w':=hb0.trans (hb'.mono hb0.size);exact ZoB F caps w.heap.size x _ (p x) w' he A w' hv hc' (fun w'' hb''=>hF k x _ w'' hx (hbw.trans (hb''.mono hbw.size)) (CatR.st.keep hv (Yaf (S:=fun _=>False) hb'') (fun _ _=>id))))
 obtain ⟨ao,cp,rfl⟩:=hs.shape;generalize (l.any fun x=>!p x)=f at HCF ⊢;generalize l.length=n at HCF ⊢;clear he hs hF hlen;go_enter Tryz.func214,Tryz.ntmps214
 go_wp2_with fail
 refine (HCF.o _).mono ?_;rintro e w1 ⟨rfl,hb⟩;have hbw:Below w.heap.size w w1:=((Yab _ w).alloc (Yac _) _).trans (hb.mono (by simp));have HB:=Hd hbw;clear hb hbw hmf;go_wp2;go_ret;exact ⟨rfl,HB.o⟩
