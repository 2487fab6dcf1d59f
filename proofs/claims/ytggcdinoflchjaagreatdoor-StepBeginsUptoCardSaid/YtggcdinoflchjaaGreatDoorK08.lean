/- laws -/
import Derived.Test.YtggcdinoflchjaaGreatDoorK07
import Derived.Deep.RegionHeld
set_option maxRecDepth 100000
set_option maxHeartbeats 16000000
namespace Go.Proofs.YtggcdinoflchjaaGreatDoor
open Go.RowKit
theorem Zkh {A:Nat->Prop} (F:Nat) (caps:Array Value) (p:Mth->Bool) (l:List (Mth)) (sv:Value) (w:World) (he:∀ args w,(callFunc F args).run Tryz.prog w=.ok (.enter F args) w)
  (hs:Src 7 MthR A w sv l) (hF:ZdT MthR A F caps p l w) (hlen:l.length<=9223372036854775807) :
  Calls Tryz.prog 203 #[sv,.func (.func F) #[] caps] w (ZjH (l.any p) w):=by
 have HF:=Hd hF;have HE:=Hd he;clear hF he;rcases hs with ⟨ao,cp0,rfl,rfl⟩|⟨b,o,cap,rfl,_,hc⟩
 ·go_enter Tryz.func203,Tryz.ntmps203;go_wp2
  go_loopw [8] (fun v8 wr=>v8=.int .i64 0/\wr=w) (fun _ _=>0)
  case atStart=>exact ⟨rfl,rfl⟩
  case round=>
   obtain ⟨rfl,rfl⟩:=hrel;go_wp2;go_ret;exact ⟨-1,rfl,rfl,Yab _ _⟩
 ·have HC:=Hd hc;obtain ⟨n,hn⟩:∃ n,n=l.length:=⟨_,rfl⟩
  rw [←hn] at hlen ⊢;have HN:=Hd hn;clear hc hn;go_enter Tryz.func203,Tryz.ntmps203;go_wp2
  go_loopw [8] (fun v8 wr=>∃ k:Nat,k<=n/\v8=.int .i64 k/\(l.take k).any p=false/\Below w.heap.size w wr) (fun v8 _=>n - (intOf v8).toNat)
  case atStart=>exact ⟨0,Yai _,rfl,by simp,Yab _ _⟩
  case round=>
   obtain ⟨k,hk,rfl,hall,hbw⟩:=hrel;have HA:=Hd hall;have HB:=Hd hbw;clear hall hbw;by_cases hlt:k<n
   ·have hkl:k<l.length:=by have:=HN.o;omega
    obtain ⟨x,hx⟩:∃ x,l[k]? = some x:=⟨_,Yaa hkl⟩
    have hoW:=Yad (S:=fun _=>False) HB.o;obtain ⟨v,hv,hsz,hcl⟩:=HC.o k x hx;have HV:=Hd (MthR.st.keep hv hoW (fun _ _=>id));obtain ⟨_,_,_,rfl,⟨po,pc,rfl⟩,⟨co,cc,rfl⟩,⟨ko,kc,rfl⟩⟩:=Zam hv;have d0:wr.cell? ⟨b,o+k * 7,none⟩=some (.string (S x.name)):=hoW.cell (a:=⟨b,o+k * 7,none⟩) (hcl 0 _ rfl) id;have d1:wr.cell? ⟨b,o+k * 7+1,none⟩=some (.slice po x.params.length pc):=hoW.cell (a:=⟨b,o+k * 7+1,none⟩) (hcl 1 _ rfl) id;have d2:wr.cell? ⟨b,o+k * 7+2,none⟩=some (.string (S x.res)):=hoW.cell (a:=⟨b,o+k * 7+2,none⟩) (hcl 2 _ rfl) id;have d3:wr.cell? ⟨b,o+k * 7+3,none⟩=some (.bool x.abs):=hoW.cell (a:=⟨b,o+k * 7+3,none⟩) (hcl 3 _ rfl) id;have d4:wr.cell? ⟨b,o+k * 7+4,none⟩=some (.int .i64 x.loc):=hoW.cell (a:=⟨b,o+k * 7+4,none⟩) (hcl 4 _ rfl) id;have d5:wr.cell? ⟨b,o+k * 7+5,none⟩=some (.slice co x.code.length cc):=hoW.cell (a:=⟨b,o+k * 7+5,none⟩) (hcl 5 _ rfl) id;have d6:wr.cell? ⟨b,o+k * 7+6,none⟩=some (.slice ko x.cats.length kc):=hoW.cell (a:=⟨b,o+k * 7+6,none⟩) (hcl 6 _ rfl) id;clear hcl hsz;have HX:=Hd hx;have hts:=Zah p l k x hx;rw [HA.o,YaS] at hts;have HTS:=Hd hts;clear hx hkl hoW hts;have hk0:(0:Int)<=k:=by omega
    have hkn:(k:Int)<(n:Int):=by omega
    have he:=HE.o
    go_wp2_with fail
    refine (HF.o k x _ wr HX.o HB.o HV.o).mono ?_;rintro e w1 ⟨rfl,hb1⟩;have hb2:Below w.heap.size w w1:=HB.o.trans (hb1.mono HB.o.size);have HB2:=Hd hb2;clear hb1 hb2 he d0 d1 d2 d3 d4 d5 d6;cases hp:p x with
    | true=>
     rw [hp] at HTS;have hfin:l.any p=true:=by
      rw [YaQ];exact ⟨x,Yaf HX.o,hp⟩
     have HFI:=Hd hfin;clear hp hfin;go_wp2;go_ret;exact ⟨k,rfl,by rw [HFI.o];simp,HB2.o⟩
    | false=>
     rw [hp] at HTS;clear hp;go_wp2
     go_roundw
     case rel=>exact ⟨k+1,by omega,by go_num,HTS.o,HB2.o⟩
     case measure=>simp [intOf];omega
   ·obtain rfl:k=n:=by omega
    have hfin:l.any p=false:=by
     have h:=HA.o;rw [HN.o,Yaw (Yac _)] at h;exact h
    have HFI:=Hd hfin;clear hfin;go_wp2;go_ret;exact ⟨-1,rfl,by rw [HFI.o];rfl,HB.o⟩
theorem Zc8 {A:Nat->Prop} (F:Nat) (caps:Array Value) (p:Mth->Bool) (l:List (Mth)) (sv:Value) (w:World) (he:∀ args w,(callFunc F args).run Tryz.prog w=.ok (.enter F args) w)
  (hs:Src 7 MthR A w sv l) (hF:ZdT MthR A F caps p l w) (hlen:l.length<=9223372036854775807) :
  Calls Tryz.prog 146 #[sv,.func (.func F) #[] caps] w (Said (l.any p) w):=by
 have HI:=Hd (Zkh F caps p l sv w he hs hF hlen);obtain ⟨ao,cp,rfl⟩:=hs.shape;generalize l.any p=f at HI ⊢;generalize l.length=n at HI ⊢;clear he hs hF hlen;go_enter Tryz.func146,Tryz.ntmps146
 go_wp2_with fail
 refine HI.o.mono ?_;rintro e w1 ⟨z,rfl,hz,hb⟩;have HZ:=Hd hz;have HB:=Hd hb;clear hz hb;go_wp2;go_ret;exact ⟨Ya5 (fun q=>Ending.returned (.bool q)) HZ.o,HB.o⟩
theorem Zn6 (F:Nat) (caps:Array Value) (c:Nat) (x:Mth) (v:Value) (r:Bool) (w:World) (he:∀ args w,(callFunc F args).run Tryz.prog w=.ok (.enter F args) w)
  (A:Nat->Prop) (w0:World) (hv:MthR A w0 x v) (hc:w.cell? ⟨c,0,none⟩=some (.func (.func F) #[] caps)) (hF:∀ w',Below w.heap.size w w'->Calls Tryz.prog F (#[v]++caps) w' (Said r w')) :
  Calls Tryz.prog 161 #[v,.pointer (some ⟨c,0,none⟩)] w (Said (!r) w):=by
 obtain ⟨_,_,_,rfl,⟨po,pc,rfl⟩,⟨co,cc,rfl⟩,⟨ko,kc,rfl⟩⟩:=Zam hv;have HF:=Hd hF;have hlt:c<w.heap.size:=World.block_lt_of_cell? w _ hc;have hcA:∀ o:Obj,(w.alloc o).cell? ⟨c,0,none⟩=some (.func (.func F) #[] caps):=fun o=>((Yan (fun _=>False) w).alloc o).cell hc id
 clear hc;clear hF;go_enter Tryz.func161,Tryz.ntmps161
 go_wp2_with fail
 refine (HF.o _ ((Yab _ w).alloc (Yac _) _)).mono ?_;rintro e w1 ⟨rfl,hb⟩;clear hcA he;go_wp2;go_ret;exact ⟨rfl,((Yab _ w).alloc (Yac _) _).trans (hb.mono (by simp))⟩
theorem ZlD {A:Nat->Prop} (F:Nat) (caps:Array Value) (p:Mth->Bool) (l:List (Mth)) (sv:Value) (w:World) (he:∀ args w,(callFunc F args).run Tryz.prog w=.ok (.enter F args) w)
  (hs:Src 7 MthR A w sv l) (hF:ZdT MthR A F caps p l w) (hlen:l.length<=9223372036854775807) :
  Calls Tryz.prog 105 #[sv,.func (.func F) #[] caps] w (Said (l.all p) w):=by
 have hmf:∀ (fn:Fn) (first cap:Array Value) (w:World),(Instr.makeFunc fn first cap).run Tryz.prog w=.ok (.func fn first cap) w:=fun _ _ _ _=>rfl
 rw [Zcz];have HCF:Hid (∀ T:TypeId,Calls Tryz.prog 146 #[sv,.func (.func 161) #[] #[.pointer (some ⟨w.heap.size,0,none⟩)]] (w.alloc (.cells #[.func (.func F) #[] caps] T)) (Said (l.any fun x=>!p x) (w.alloc (.cells #[.func (.func F) #[] caps] T)))):=Hd (fun T=>by
  have hb0:Below w.heap.size w (w.alloc (.cells #[.func (.func F) #[] caps] T)):=(Yab _ w).alloc (Yac _) _;refine Zc8 (A:=A) 161 _ (fun x=>!p x) l sv _ (Zai Tryz.func161 (by kernel_rfl) rfl) (MthR.st.below hs hb0) (fun k x v w' hx hb' hv=>?_) hlen;have hc':w'.cell? ⟨w.heap.size,0,none⟩=some (.func (.func F) #[] caps):=(Yad (S:=fun _=>False) hb').cell (by simp) id;have hbw:Below w.heap.size w w':=hb0.trans (hb'.mono hb0.size);exact Zn6 F caps w.heap.size x _ (p x) w' he A w' hv hc' (fun w'' hb''=>hF k x _ w'' hx (hbw.trans (hb''.mono hbw.size)) (MthR.st.keep hv (Yad (S:=fun _=>False) hb'') (fun _ _=>id))))
 obtain ⟨ao,cp,rfl⟩:=hs.shape;generalize (l.any fun x=>!p x)=f at HCF ⊢;generalize l.length=n at HCF ⊢;clear he hs hF hlen;go_enter Tryz.func105,Tryz.ntmps105
 go_wp2_with fail
 refine (HCF.o _).mono ?_;rintro e w1 ⟨rfl,hb⟩;have hbw:Below w.heap.size w w1:=((Yab _ w).alloc (Yac _) _).trans (hb.mono (by simp));have HB:=Hd hbw;clear hb hbw hmf;go_wp2;go_ret;exact ⟨rfl,HB.o⟩
theorem Zkg {A:Nat->Prop} (F:Nat) (caps:Array Value) (p:Ins->Bool) (l:List (Ins)) (sv:Value) (w:World) (he:∀ args w,(callFunc F args).run Tryz.prog w=.ok (.enter F args) w)
  (hs:Src 3 InsR A w sv l) (hF:ZdT InsR A F caps p l w) (hlen:l.length<=9223372036854775807) :
  Calls Tryz.prog 252 #[sv,.func (.func F) #[] caps] w (ZjH (l.any p) w):=by
 have HF:=Hd hF;have HE:=Hd he;clear hF he;rcases hs with ⟨ao,cp0,rfl,rfl⟩|⟨b,o,cap,rfl,_,hc⟩
 ·go_enter Tryz.func252,Tryz.ntmps252;go_wp2
  go_loopw [8] (fun v8 wr=>v8=.int .i64 0/\wr=w) (fun _ _=>0)
  case atStart=>exact ⟨rfl,rfl⟩
  case round=>
   obtain ⟨rfl,rfl⟩:=hrel;go_wp2;go_ret;exact ⟨-1,rfl,rfl,Yab _ _⟩
 ·have HC:=Hd hc;obtain ⟨n,hn⟩:∃ n,n=l.length:=⟨_,rfl⟩
  rw [←hn] at hlen ⊢;have HN:=Hd hn;clear hc hn;go_enter Tryz.func252,Tryz.ntmps252;go_wp2
  go_loopw [8] (fun v8 wr=>∃ k:Nat,k<=n/\v8=.int .i64 k/\(l.take k).any p=false/\Below w.heap.size w wr) (fun v8 _=>n - (intOf v8).toNat)
  case atStart=>exact ⟨0,Yai _,rfl,by simp,Yab _ _⟩
  case round=>
   obtain ⟨k,hk,rfl,hall,hbw⟩:=hrel;have HA:=Hd hall;have HB:=Hd hbw;clear hall hbw;by_cases hlt:k<n
   ·have hkl:k<l.length:=by have:=HN.o;omega
    obtain ⟨x,hx⟩:∃ x,l[k]? = some x:=⟨_,Yaa hkl⟩
    have hoW:=Yad (S:=fun _=>False) HB.o;obtain ⟨v,hv,hsz,hcl⟩:=HC.o k x hx;have HV:=Hd (InsR.st.keep hv hoW (fun _ _=>id));obtain rfl:=hv;have d0:wr.cell? ⟨b,o+k * 3,none⟩=some (.string (S x.op)):=hoW.cell (a:=⟨b,o+k * 3,none⟩) (hcl 0 _ rfl) id;have d1:wr.cell? ⟨b,o+k * 3+1,none⟩=some (.int .i64 x.n):=hoW.cell (a:=⟨b,o+k * 3+1,none⟩) (hcl 1 _ rfl) id;have d2:wr.cell? ⟨b,o+k * 3+2,none⟩=some (.string (S x.s)):=hoW.cell (a:=⟨b,o+k * 3+2,none⟩) (hcl 2 _ rfl) id;clear hcl hsz;have HX:=Hd hx;have hts:=Zah p l k x hx;rw [HA.o,YaS] at hts;have HTS:=Hd hts;clear hx hkl hoW hts;have hk0:(0:Int)<=k:=by omega
    have hkn:(k:Int)<(n:Int):=by omega
    have he:=HE.o
    go_wp2_with fail
    refine (HF.o k x _ wr HX.o HB.o HV.o).mono ?_;rintro e w1 ⟨rfl,hb1⟩;have hb2:Below w.heap.size w w1:=HB.o.trans (hb1.mono HB.o.size);have HB2:=Hd hb2;clear hb1 hb2 he d0 d1 d2;cases hp:p x with
    | true=>
     rw [hp] at HTS;have hfin:l.any p=true:=by
      rw [YaQ];exact ⟨x,Yaf HX.o,hp⟩
     have HFI:=Hd hfin;clear hp hfin;go_wp2;go_ret;exact ⟨k,rfl,by rw [HFI.o];simp,HB2.o⟩
    | false=>
     rw [hp] at HTS;clear hp;go_wp2
     go_roundw
     case rel=>exact ⟨k+1,by omega,by go_num,HTS.o,HB2.o⟩
     case measure=>simp [intOf];omega
   ·obtain rfl:k=n:=by omega
    have hfin:l.any p=false:=by
     have h:=HA.o;rw [HN.o,Yaw (Yac _)] at h;exact h
    have HFI:=Hd hfin;clear hfin;go_wp2;go_ret;exact ⟨-1,rfl,by rw [HFI.o];rfl,HB.o⟩
theorem ZlM {A:Nat->Prop} (F:Nat) (caps:Array Value) (p:Ins->Bool) (l:List (Ins)) (sv:Value) (w:World) (he:∀ args w,(callFunc F args).run Tryz.prog w=.ok (.enter F args) w)
  (hs:Src 3 InsR A w sv l) (hF:ZdT InsR A F caps p l w) (hlen:l.length<=9223372036854775807) :
  Calls Tryz.prog 239 #[sv,.func (.func F) #[] caps] w (Said (l.any p) w):=by
 have HI:=Hd (Zkg F caps p l sv w he hs hF hlen);obtain ⟨ao,cp,rfl⟩:=hs.shape;generalize l.any p=f at HI ⊢;generalize l.length=n at HI ⊢;clear he hs hF hlen;go_enter Tryz.func239,Tryz.ntmps239
 go_wp2_with fail
 refine HI.o.mono ?_;rintro e w1 ⟨z,rfl,hz,hb⟩;have HZ:=Hd hz;have HB:=Hd hb;clear hz hb;go_wp2;go_ret;exact ⟨Ya5 (fun q=>Ending.returned (.bool q)) HZ.o,HB.o⟩
theorem Zn5 (F:Nat) (caps:Array Value) (c:Nat) (x:Ins) (v:Value) (r:Bool) (w:World) (he:∀ args w,(callFunc F args).run Tryz.prog w=.ok (.enter F args) w)
  (A:Nat->Prop) (w0:World) (hv:InsR A w0 x v) (hc:w.cell? ⟨c,0,none⟩=some (.func (.func F) #[] caps)) (hF:∀ w',Below w.heap.size w w'->Calls Tryz.prog F (#[v]++caps) w' (Said r w')) :
  Calls Tryz.prog 240 #[v,.pointer (some ⟨c,0,none⟩)] w (Said (!r) w):=by
 obtain rfl:=hv;have HF:=Hd hF;have hlt:c<w.heap.size:=World.block_lt_of_cell? w _ hc;have hcA:∀ o:Obj,(w.alloc o).cell? ⟨c,0,none⟩=some (.func (.func F) #[] caps):=fun o=>((Yan (fun _=>False) w).alloc o).cell hc id
 clear hc;clear hF;go_enter Tryz.func240,Tryz.ntmps240
 go_wp2_with fail
 refine (HF.o _ ((Yab _ w).alloc (Yac _) _)).mono ?_;rintro e w1 ⟨rfl,hb⟩;clear hcA he;go_wp2;go_ret;exact ⟨rfl,((Yab _ w).alloc (Yac _) _).trans (hb.mono (by simp))⟩
theorem ZpB {A:Nat->Prop} (F:Nat) (caps:Array Value) (p:Ins->Bool) (l:List (Ins)) (sv:Value) (w:World) (he:∀ args w,(callFunc F args).run Tryz.prog w=.ok (.enter F args) w)
  (hs:Src 3 InsR A w sv l) (hF:ZdT InsR A F caps p l w) (hlen:l.length<=9223372036854775807) :
  Calls Tryz.prog 212 #[sv,.func (.func F) #[] caps] w (Said (l.all p) w):=by
 have hmf:∀ (fn:Fn) (first cap:Array Value) (w:World),(Instr.makeFunc fn first cap).run Tryz.prog w=.ok (.func fn first cap) w:=fun _ _ _ _=>rfl
 rw [Zcz];have HCF:Hid (∀ T:TypeId,Calls Tryz.prog 239 #[sv,.func (.func 240) #[] #[.pointer (some ⟨w.heap.size,0,none⟩)]] (w.alloc (.cells #[.func (.func F) #[] caps] T)) (Said (l.any fun x=>!p x) (w.alloc (.cells #[.func (.func F) #[] caps] T)))):=Hd (fun T=>by
  have hb0:Below w.heap.size w (w.alloc (.cells #[.func (.func F) #[] caps] T)):=(Yab _ w).alloc (Yac _) _;refine ZlM (A:=A) 240 _ (fun x=>!p x) l sv _ (Zai Tryz.func240 (by kernel_rfl) rfl) (InsR.st.below hs hb0) (fun k x v w' hx hb' hv=>?_) hlen;have hc':w'.cell? ⟨w.heap.size,0,none⟩=some (.func (.func F) #[] caps):=(Yad (S:=fun _=>False) hb').cell (by simp) id;have hbw:Below w.heap.size w w':=hb0.trans (hb'.mono hb0.size);exact Zn5 F caps w.heap.size x _ (p x) w' he A w' hv hc' (fun w'' hb''=>hF k x _ w'' hx (hbw.trans (hb''.mono hbw.size)) (InsR.st.keep hv (Yad (S:=fun _=>False) hb'') (fun _ _=>id))))
 obtain ⟨ao,cp,rfl⟩:=hs.shape;generalize (l.any fun x=>!p x)=f at HCF ⊢;generalize l.length=n at HCF ⊢;clear he hs hF hlen;go_enter Tryz.func212,Tryz.ntmps212
 go_wp2_with fail
 refine (HCF.o _).mono ?_;rintro e w1 ⟨rfl,hb⟩;have hbw:Below w.heap.size w w1:=((Yab _ w).alloc (Yac _) _).trans (hb.mono (by simp));have HB:=Hd hbw;clear hb hbw hmf;go_wp2;go_ret;exact ⟨rfl,HB.o⟩
def ZjI {α:Type} (R:Zao α) (A:Nat->Prop) (F:Nat) (caps:Array Value) (nm:α->List UInt8) (w:World):Prop:=
 ∀ (x:α) (v:Value) (w':World),Below w.heap.size w w'->R A w' x v->Calls Tryz.prog F (#[v]++caps) w' (Zca (nm x) w')
theorem ZeN {α:Type} (nm:α->List UInt8) (l:List α) (k:Nat) (x:α) (h:l[k]? = some x):Ze6 (l.map nm) k = !((l.take k).any fun y=>nm y == nm x):=by
 unfold Ze6;have hx:(l.map nm).getD k []=nm x:=by rw [List.getD,Yau,h];rfl
 rw [hx,←List.map_take,List.any_map];rfl
theorem Zl3 {A:Nat->Prop} (F:Nat) (caps:Array Value) (nm:List UInt8->List UInt8) (x y:List UInt8) (vx vy:Value) (cn cx:Nat) (w:World) (he:∀ args w,(callFunc F args).run Tryz.prog w=.ok (.enter F args) w)
  (hvx:StrR A w x vx) (hvy:StrR A w y vy) (hc:w.cell? ⟨cn,0,none⟩=some (.func (.func F) #[] caps)) (hb:∀ j u,vx.cells[j]? = some u->w.cell? ⟨cx,j,none⟩=some u) (hN:ZjI StrR A F caps nm w) :
  Calls Tryz.prog 208 #[vy,.pointer (some ⟨cn,0,none⟩),.pointer (some ⟨cx,0,none⟩)] w (Said (nm y == nm x) w):=by
 have HNX:Hid (∀ W,Below w.heap.size w W->Calls Tryz.prog F (#[vx]++caps) W fun e w'=>e=.returned (.string (S (nm x)))/\Below W.heap.size W w'):=Hd (fun W hW=>(hN x vx W hW (StrR.st.keep hvx (Yad (S:=fun _=>False) hW) (fun _ _=>id))));have HNY:Hid (∀ W,Below w.heap.size w W->Calls Tryz.prog F (#[vy]++caps) W fun e w'=>e=.returned (.string (S (nm y)))/\Below W.heap.size W w'):=Hd (fun W hW=>(hN y vy W hW (StrR.st.keep hvy (Yad (S:=fun _=>False) hW) (fun _ _=>id))));clear hN;obtain rfl:=hvx;obtain rfl:=hvy;have e1:=Zae (nm x);have e2:=Zae (nm y);generalize nm x=nx at HNX e1 ⊢;generalize nm y=ny at HNY e2 ⊢;have hb0:Below w.heap.size w w:=Yab _ _;have HB0:=Hd hb0;have HX:Hid (∀ W,Below w.heap.size w W->Calls Tryz.prog F (#[.string (S x)]++caps) W fun e w'=>e=.returned (.string (S nx))/\Below w.heap.size w w'):=Hd (fun W hW=>(HNX.o W (HB0.o.trans (hW.mono HB0.o.size))).mono (fun _ _ h=>⟨h.1,hW.trans (h.2.mono hW.size)⟩));have HY:Hid (∀ W,Below w.heap.size w W->Calls Tryz.prog F (#[.string (S y)]++caps) W fun e w'=>e=.returned (.string (S ny))/\Below w.heap.size w w'):=Hd (fun W hW=>(HNY.o W (HB0.o.trans (hW.mono HB0.o.size))).mono (fun _ _ h=>⟨h.1,hW.trans (h.2.mono hW.size)⟩));have HS:Hid (∀ W,Below w.heap.size w W->(fun W=>W.cell? ⟨cn,0,none⟩=some (.func (.func F) #[] caps)/\W.cell? ⟨cx,0,none⟩=some (.string (S x))) W):=Hd (fun W hW=>by
  have hoA:=Yad (S:=fun _=>False) hW;have ho:=Yad (S:=fun _=>False) (HB0.o.trans (hW.mono HB0.o.size));exact ⟨ho.cell hc id,ho.cell (hb 0 _ rfl) id⟩)
 clear hc hb hb0 HNX HNY;go_enter Tryz.func208,Tryz.ntmps208
 go_upto_region 1 with fail
 have hS0:=HS.o _ (Yab _ w);obtain ⟨s0,s1⟩:=hS0;first
 | (go_region_held (fun W=>W.cell? ⟨cn,0,none⟩=some (.func (.func F) #[] caps)/\W.cell? ⟨cx,0,none⟩=some (.string (S x))) (first|with_reducible exact HS.o _ b2|with_reducible exact HS.o _ b1|with_reducible exact HS.o _ ((Yab _ _).drew))
   (first|(with_reducible refine (HY.o _ (by first|exact b2|exact (Yab _ _).drew)).mono ?_;rintro e wA ⟨rfl,b1⟩)|(with_reducible refine (HX.o _ (by first|exact b1|exact (Yab _ _).drew)).mono ?_;rintro e wB ⟨rfl,b2⟩)))
 | fail
 all_goals
  clear he;go_wp2;go_ret;first|exact ⟨rfl,HB0.o.trans (b2.mono HB0.o.size)⟩|exact ⟨rfl,HB0.o.trans (b1.mono HB0.o.size)⟩
theorem Zoh {A:Nat->Prop} (F:Nat) (caps:Array Value) (nm:List UInt8->List UInt8) (l:List (List UInt8)) (sv:Value) (w:World) (he:∀ args w,(callFunc F args).run Tryz.prog w=.ok (.enter F args) w)
  (hs:Src 1 StrR A w sv l) (hN:ZjI StrR A F caps nm w) (hlen:l.length<=1048576) :
  Calls Tryz.prog 151 #[sv,.func (.func F) #[] caps] w (Said (ZbB (l.map nm)) w):=by
 have hmf:∀ (fn:Fn) (first cap:Array Value) (w:World),(Instr.makeFunc fn first cap).run Tryz.prog w=.ok (.func fn first cap) w:=fun _ _ _ _=>rfl
 have HE:=Hd he;have HNM:=Hd hN;have HSRC:=Hd hs;clear he hN;rcases hs with ⟨ao,cp0,rfl,rfl⟩|⟨b,o,cap,rfl,hq,hc⟩
 ·go_enter Tryz.func151,Tryz.ntmps151;go_wp2
  go_loopw [9] (fun v9 wr=>v9=.int .i64 0/\wr=w.alloc (.cells #[.func (.func F) #[] caps] 109)) (fun _ _=>0)
  case atStart=>exact ⟨rfl,rfl⟩
  case round=>
   obtain ⟨rfl,rfl⟩:=hrel;go_wp2;go_ret;exact ⟨rfl,(Yab _ w).alloc (Yac _) _⟩
 ·have HC:=Hd hc;have HQ:=Hd hq;obtain ⟨n,hn⟩:∃ n,n=l.length:=⟨_,rfl⟩
  have hcap1:n<=cap:=by rw [hn];exact hq.2.2.1
  have hcap2:cap<=9223372036854775807:=hq.2.2.2;rw [←hn] at hlen HSRC ⊢;have HN:=Hd hn;clear hc hn hq;obtain ⟨r,hr⟩:∃ r,r=ZbB (l.map nm):=⟨_,rfl⟩
  rw [←hr];have HR:=Hd hr;clear hr;go_enter Tryz.func151,Tryz.ntmps151;go_wp2;have hbF:Box (w.alloc (.cells #[.func (.func F) #[] caps] 109)) w.heap.size #[.func (.func F) #[] caps] 109:=Box.new w _ _;have hb0:Below w.heap.size w (w.alloc (.cells #[.func (.func F) #[] caps] 109)):=(Yab _ w).alloc (Yac _) _;generalize w.alloc (.cells #[.func (.func F) #[] caps] 109)=W0 at hbF hb0 ⊢;have HBF:=Hd hbF;have HB0:=Hd hb0;clear hbF hb0;obtain ⟨cf,hcf⟩:∃ cf,cf=w.heap.size:=⟨_,rfl⟩
  rw [←hcf] at HBF ⊢;have HCF:=Hd hcf;clear hcf
  go_loopw [9] (fun v9 wr=>∃ k:Nat,k<=n/\v9=.int .i64 k/\Zbu (l.map nm) k=true/\Below W0.heap.size W0 wr) (fun v9 _=>n - (intOf v9).toNat)
  case atStart=>exact ⟨0,Yai _,rfl,Zdo _,Yab _ _⟩
  case round=>
   obtain ⟨k,hk,rfl,hall,hbw⟩:=hrel;have HA:=Hd hall;have HBW:=Hd hbw;have hb1:Below w.heap.size w wr:=HB0.o.trans (hbw.mono HB0.o.size);have HB:=Hd hb1;clear hall hbw hb1;by_cases hlt:k<n
   ·have hkl:k<l.length:=by have:=HN.o;omega
    obtain ⟨x,hx⟩:∃ x,l[k]? = some x:=⟨_,Yaa hkl⟩
    have hoW:=Yad (S:=fun _=>False) HB.o;obtain ⟨v,hv,hsz,hcl⟩:=HC.o k x hx;have HV:=Hd (StrR.st.keep hv hoW (fun _ _=>id));obtain rfl:=hv;have d0:wr.cell? ⟨b,o+k,none⟩=some (.string (S x)):=hoW.cell (a:=⟨b,o+k,none⟩) (by have q:=hcl 0 _ rfl;rw [YaG] at q;exact q) id;clear hcl hsz;have HX:=Hd hx;have hfr:=ZeN nm l k x hx;have hds:=Zdn (l.map nm) k;rw [HA.o,Yax,hfr] at hds;have HDS:=Hd hds;clear hx hkl hoW hfr hds;have hk0:(0:Int)<=k:=by omega
    have hkn:(k:Int)<(n:Int):=by omega
    have hkc:(k:Int)<=(cap:Int):=by omega
    go_wp2_with fail
    have hbN:Below wr.heap.size wr (wr.alloc (.cells #[.string (S x)] 9)):=(Yab _ wr).alloc (Yac _) _;have hbx:Box (wr.alloc (.cells #[.string (S x)] 9)) wr.heap.size #[.string (S x)] 9:=Box.new wr _ _;have hbW1:Below w.heap.size w (wr.alloc (.cells #[.string (S x)] 9)):=HB.o.trans (hbN.mono HB.o.size);have hbF1:Box (wr.alloc (.cells #[.string (S x)] 9)) cf #[.func (.func F) #[] caps] 109:=(HBF.o.below HBW.o).below hbN;have hSk:=StrR.st.below (Src.head HQ.o HC.o k (by have:=HN.o;omega)) hbW1;refine (ZeX (A:=A) 208 _ (fun y=>nm y == nm x) (l.take k) _ _ (Zai Tryz.func208 (by kernel_rfl) rfl) hSk (fun i y vy w' hy hb' hvy=>?_) (by rw [Yay];omega)).mono ?_
    ·have hb2:Below w.heap.size w w':=hbW1.trans (hb'.mono hbW1.size);exact Zl3 F caps nm x y _ vy cf wr.heap.size w' HE.o (StrR.st.keep HV.o (Yad (S:=fun _=>False) (hbN.trans (hb'.mono hbN.size))) (fun _ _=>id)) hvy ((hbF1.below hb').cell 0 rfl) (fun j u hj=>(hbx.below hb').cell j hj)
      (fun z vz W hW hz=>HNM.o z vz W (hb2.trans (hW.mono hb2.size)) hz)
    ·rintro e w1 ⟨rfl,hb1⟩;have hb2:Below W0.heap.size W0 w1:=(HBW.o.trans (hbN.mono HBW.o.size)).trans (hb1.mono (HBW.o.trans (hbN.mono HBW.o.size)).size);have HB2:=Hd hb2;clear hb1 hb2 hbN hbx hbW1 hbF1 hSk d0;cases hp:((l.take k).any fun y=>nm y == nm x) with
     | true=>
      rw [hp] at HDS;have hfin:r=false:=by
       rw [HR.o];unfold ZbB;exact ZeZ _ (k+1) _ (by rw [Yaz];have:=HN.o;omega) HDS.o
      subst hfin;clear hp;go_wp2;go_ret;exact ⟨rfl,HB0.o.trans (HB2.o.mono HB0.o.size)⟩
     | false=>
      rw [hp] at HDS;clear hp;go_wp2
      go_roundw
      case rel=>exact ⟨k+1,by omega,by go_num,HDS.o,HB2.o⟩
      case measure=>simp [intOf];omega
   ·obtain rfl:k=n:=by omega
    have hfin:r=true:=by
     rw [HR.o];unfold ZbB;rw [Yaz,←HN.o];exact HA.o
    subst hfin;go_wp2;go_ret;exact ⟨rfl,HB.o⟩
theorem Zl1 {A:Nat->Prop} (F:Nat) (caps:Array Value) (nm:Fld->List UInt8) (x y:Fld) (vx vy:Value) (cn cx:Nat) (w:World) (he:∀ args w,(callFunc F args).run Tryz.prog w=.ok (.enter F args) w)
  (hvx:FldR A w x vx) (hvy:FldR A w y vy) (hc:w.cell? ⟨cn,0,none⟩=some (.func (.func F) #[] caps)) (hb:∀ j u,vx.cells[j]? = some u->w.cell? ⟨cx,j,none⟩=some u) (hN:ZjI FldR A F caps nm w) :
  Calls Tryz.prog 209 #[vy,.pointer (some ⟨cn,0,none⟩),.pointer (some ⟨cx,0,none⟩)] w (Said (nm y == nm x) w):=by
 have HNX:Hid (∀ W,Below w.heap.size w W->Calls Tryz.prog F (#[vx]++caps) W fun e w'=>e=.returned (.string (S (nm x)))/\Below W.heap.size W w'):=Hd (fun W hW=>(hN x vx W hW (FldR.st.keep hvx (Yad (S:=fun _=>False) hW) (fun _ _=>id))));have HNY:Hid (∀ W,Below w.heap.size w W->Calls Tryz.prog F (#[vy]++caps) W fun e w'=>e=.returned (.string (S (nm y)))/\Below W.heap.size W w'):=Hd (fun W hW=>(hN y vy W hW (FldR.st.keep hvy (Yad (S:=fun _=>False) hW) (fun _ _=>id))));clear hN;obtain rfl:=hvx;obtain rfl:=hvy;have e1:=Zae (nm x);have e2:=Zae (nm y);generalize nm x=nx at HNX e1 ⊢;generalize nm y=ny at HNY e2 ⊢;have hb0:Below w.heap.size w (w.alloc (.cells #[.string (S y.name),.string (S y.kind),.bool y.tr] 99)):=(Yab _ w).alloc (Yac _) _;have HB0:=Hd hb0;have HX:Hid (∀ W,Below (w.alloc (.cells #[.string (S y.name),.string (S y.kind),.bool y.tr] 99)).heap.size (w.alloc (.cells #[.string (S y.name),.string (S y.kind),.bool y.tr] 99)) W->Calls Tryz.prog F (#[.agg #[.string (S x.name),.string (S x.kind),.bool x.tr]]++caps) W fun e w'=>e=.returned (.string (S nx))/\Below (w.alloc (.cells #[.string (S y.name),.string (S y.kind),.bool y.tr] 99)).heap.size (w.alloc (.cells #[.string (S y.name),.string (S y.kind),.bool y.tr] 99)) w'):=Hd (fun W hW=>(HNX.o W (HB0.o.trans (hW.mono HB0.o.size))).mono (fun _ _ h=>⟨h.1,hW.trans (h.2.mono hW.size)⟩));have HY:Hid (∀ W,Below (w.alloc (.cells #[.string (S y.name),.string (S y.kind),.bool y.tr] 99)).heap.size (w.alloc (.cells #[.string (S y.name),.string (S y.kind),.bool y.tr] 99)) W->Calls Tryz.prog F (#[.agg #[.string (S y.name),.string (S y.kind),.bool y.tr]]++caps) W fun e w'=>e=.returned (.string (S ny))/\Below (w.alloc (.cells #[.string (S y.name),.string (S y.kind),.bool y.tr] 99)).heap.size (w.alloc (.cells #[.string (S y.name),.string (S y.kind),.bool y.tr] 99)) w'):=Hd (fun W hW=>(HNY.o W (HB0.o.trans (hW.mono HB0.o.size))).mono (fun _ _ h=>⟨h.1,hW.trans (h.2.mono hW.size)⟩));have HS:Hid (∀ W,Below (w.alloc (.cells #[.string (S y.name),.string (S y.kind),.bool y.tr] 99)).heap.size (w.alloc (.cells #[.string (S y.name),.string (S y.kind),.bool y.tr] 99)) W->(fun W=>W.cell? ⟨cn,0,none⟩=some (.func (.func F) #[] caps)/\W.cell? ⟨cx,0,none⟩=some (.string (S x.name))/\W.cell? ⟨cx,1,none⟩=some (.string (S x.kind))/\W.cell? ⟨cx,2,none⟩=some (.bool x.tr)/\W.cell? ⟨w.heap.size,0,none⟩=some (.string (S y.name))/\W.cell? ⟨w.heap.size,1,none⟩=some (.string (S y.kind))/\W.cell? ⟨w.heap.size,2,none⟩=some (.bool y.tr)) W):=Hd (fun W hW=>by
  have hoA:=Yad (S:=fun _=>False) hW;have ho:=Yad (S:=fun _=>False) (HB0.o.trans (hW.mono HB0.o.size));exact ⟨ho.cell hc id,ho.cell (hb 0 _ rfl) id,ho.cell (hb 1 _ rfl) id,ho.cell (hb 2 _ rfl) id,hoA.cell (a:=⟨w.heap.size,0,none⟩) (by simp) id,hoA.cell (a:=⟨w.heap.size,1,none⟩) (by simp) id,hoA.cell (a:=⟨w.heap.size,2,none⟩) (by simp) id⟩)
 clear hc hb hb0 HNX HNY;go_enter Tryz.func209,Tryz.ntmps209
 go_upto_region 1 with fail
 generalize (w.alloc (.cells #[.string (S y.name),.string (S y.kind),.bool y.tr] 99))=W0 at HX HY HS HB0 ⊢;generalize w.heap.size=Y at HS ⊢;have hS0:=HS.o _ (Yab _ W0);obtain ⟨s0,s1,s2,s3,s4,s5,s6⟩:=hS0;first
 | (go_region_held (fun W=>W.cell? ⟨cn,0,none⟩=some (.func (.func F) #[] caps)/\W.cell? ⟨cx,0,none⟩=some (.string (S x.name))/\W.cell? ⟨cx,1,none⟩=some (.string (S x.kind))/\W.cell? ⟨cx,2,none⟩=some (.bool x.tr)/\W.cell? ⟨Y,0,none⟩=some (.string (S y.name))/\W.cell? ⟨Y,1,none⟩=some (.string (S y.kind))/\W.cell? ⟨Y,2,none⟩=some (.bool y.tr)) (first|with_reducible exact HS.o _ b2|with_reducible exact HS.o _ b1|with_reducible exact HS.o _ ((Yab _ _).drew))
   (first|(with_reducible refine (HY.o _ (by first|exact b2|exact (Yab _ _).drew)).mono ?_;rintro e wA ⟨rfl,b1⟩)|(with_reducible refine (HX.o _ (by first|exact b1|exact (Yab _ _).drew)).mono ?_;rintro e wB ⟨rfl,b2⟩)))
 | fail
 all_goals
  clear he;go_wp2;go_ret;first|exact ⟨rfl,HB0.o.trans (b2.mono HB0.o.size)⟩|exact ⟨rfl,HB0.o.trans (b1.mono HB0.o.size)⟩
theorem Zof {A:Nat->Prop} (F:Nat) (caps:Array Value) (nm:Fld->List UInt8) (l:List (Fld)) (sv:Value) (w:World) (he:∀ args w,(callFunc F args).run Tryz.prog w=.ok (.enter F args) w)
  (hs:Src 3 FldR A w sv l) (hN:ZjI FldR A F caps nm w) (hlen:l.length<=1048576) :
  Calls Tryz.prog 153 #[sv,.func (.func F) #[] caps] w (Said (ZbB (l.map nm)) w):=by
 have hmf:∀ (fn:Fn) (first cap:Array Value) (w:World),(Instr.makeFunc fn first cap).run Tryz.prog w=.ok (.func fn first cap) w:=fun _ _ _ _=>rfl
 have HE:=Hd he;have HNM:=Hd hN;have HSRC:=Hd hs;clear he hN;rcases hs with ⟨ao,cp0,rfl,rfl⟩|⟨b,o,cap,rfl,hq,hc⟩
 ·go_enter Tryz.func153,Tryz.ntmps153;go_wp2
  go_loopw [9] (fun v9 wr=>v9=.int .i64 0/\wr=w.alloc (.cells #[.func (.func F) #[] caps] 151)) (fun _ _=>0)
  case atStart=>exact ⟨rfl,rfl⟩
  case round=>
   obtain ⟨rfl,rfl⟩:=hrel;go_wp2;go_ret;exact ⟨rfl,(Yab _ w).alloc (Yac _) _⟩
 ·have HC:=Hd hc;have HQ:=Hd hq;obtain ⟨n,hn⟩:∃ n,n=l.length:=⟨_,rfl⟩
  have hcap1:n<=cap:=by rw [hn];exact hq.2.2.1
  have hcap2:cap<=9223372036854775807:=hq.2.2.2;rw [←hn] at hlen HSRC ⊢;have HN:=Hd hn;clear hc hn hq;obtain ⟨r,hr⟩:∃ r,r=ZbB (l.map nm):=⟨_,rfl⟩
  rw [←hr];have HR:=Hd hr;clear hr;go_enter Tryz.func153,Tryz.ntmps153;go_wp2;have hbF:Box (w.alloc (.cells #[.func (.func F) #[] caps] 151)) w.heap.size #[.func (.func F) #[] caps] 151:=Box.new w _ _;have hb0:Below w.heap.size w (w.alloc (.cells #[.func (.func F) #[] caps] 151)):=(Yab _ w).alloc (Yac _) _;generalize w.alloc (.cells #[.func (.func F) #[] caps] 151)=W0 at hbF hb0 ⊢;have HBF:=Hd hbF;have HB0:=Hd hb0;clear hbF hb0;obtain ⟨cf,hcf⟩:∃ cf,cf=w.heap.size:=⟨_,rfl⟩
  rw [←hcf] at HBF ⊢;have HCF:=Hd hcf;clear hcf
  go_loopw [9] (fun v9 wr=>∃ k:Nat,k<=n/\v9=.int .i64 k/\Zbu (l.map nm) k=true/\Below W0.heap.size W0 wr) (fun v9 _=>n - (intOf v9).toNat)
  case atStart=>exact ⟨0,Yai _,rfl,Zdo _,Yab _ _⟩
  case round=>
   obtain ⟨k,hk,rfl,hall,hbw⟩:=hrel;have HA:=Hd hall;have HBW:=Hd hbw;have hb1:Below w.heap.size w wr:=HB0.o.trans (hbw.mono HB0.o.size);have HB:=Hd hb1;clear hall hbw hb1;by_cases hlt:k<n
   ·have hkl:k<l.length:=by have:=HN.o;omega
    obtain ⟨x,hx⟩:∃ x,l[k]? = some x:=⟨_,Yaa hkl⟩
    have hoW:=Yad (S:=fun _=>False) HB.o;obtain ⟨v,hv,hsz,hcl⟩:=HC.o k x hx;have HV:=Hd (FldR.st.keep hv hoW (fun _ _=>id));obtain rfl:=hv;have d0:wr.cell? ⟨b,o+k * 3,none⟩=some (.string (S x.name)):=hoW.cell (a:=⟨b,o+k * 3,none⟩) (hcl 0 _ rfl) id;have d1:wr.cell? ⟨b,o+k * 3+1,none⟩=some (.string (S x.kind)):=hoW.cell (a:=⟨b,o+k * 3+1,none⟩) (hcl 1 _ rfl) id;have d2:wr.cell? ⟨b,o+k * 3+2,none⟩=some (.bool x.tr):=hoW.cell (a:=⟨b,o+k * 3+2,none⟩) (hcl 2 _ rfl) id;clear hcl hsz;have HX:=Hd hx;have hfr:=ZeN nm l k x hx;have hds:=Zdn (l.map nm) k;rw [HA.o,Yax,hfr] at hds;have HDS:=Hd hds;clear hx hkl hoW hfr hds;have hk0:(0:Int)<=k:=by omega
    have hkn:(k:Int)<(n:Int):=by omega
    have hkc:(k:Int)<=(cap:Int):=by omega
    go_wp2_with fail
    have hbN:Below wr.heap.size wr (wr.alloc (.cells #[.string (S x.name),.string (S x.kind),.bool x.tr] 99)):=(Yab _ wr).alloc (Yac _) _;have hbx:Box (wr.alloc (.cells #[.string (S x.name),.string (S x.kind),.bool x.tr] 99)) wr.heap.size #[.string (S x.name),.string (S x.kind),.bool x.tr] 99:=Box.new wr _ _;have hbW1:Below w.heap.size w (wr.alloc (.cells #[.string (S x.name),.string (S x.kind),.bool x.tr] 99)):=HB.o.trans (hbN.mono HB.o.size);have hbF1:Box (wr.alloc (.cells #[.string (S x.name),.string (S x.kind),.bool x.tr] 99)) cf #[.func (.func F) #[] caps] 151:=(HBF.o.below HBW.o).below hbN;have hSk:=FldR.st.below (Src.head HQ.o HC.o k (by have:=HN.o;omega)) hbW1;refine (ZdA (A:=A) 209 _ (fun y=>nm y == nm x) (l.take k) _ _ (Zai Tryz.func209 (by kernel_rfl) rfl) hSk (fun i y vy w' hy hb' hvy=>?_) (by rw [Yay];omega)).mono ?_
    ·have hb2:Below w.heap.size w w':=hbW1.trans (hb'.mono hbW1.size);exact Zl1 F caps nm x y _ vy cf wr.heap.size w' HE.o (FldR.st.keep HV.o (Yad (S:=fun _=>False) (hbN.trans (hb'.mono hbN.size))) (fun _ _=>id)) hvy ((hbF1.below hb').cell 0 rfl) (fun j u hj=>(hbx.below hb').cell j hj)
      (fun z vz W hW hz=>HNM.o z vz W (hb2.trans (hW.mono hb2.size)) hz)
    ·rintro e w1 ⟨rfl,hb1⟩;have hb2:Below W0.heap.size W0 w1:=(HBW.o.trans (hbN.mono HBW.o.size)).trans (hb1.mono (HBW.o.trans (hbN.mono HBW.o.size)).size);have HB2:=Hd hb2;clear hb1 hb2 hbN hbx hbW1 hbF1 hSk d0 d1 d2;cases hp:((l.take k).any fun y=>nm y == nm x) with
     | true=>
      rw [hp] at HDS;have hfin:r=false:=by
       rw [HR.o];unfold ZbB;exact ZeZ _ (k+1) _ (by rw [Yaz];have:=HN.o;omega) HDS.o
      subst hfin;clear hp;go_wp2;go_ret;exact ⟨rfl,HB0.o.trans (HB2.o.mono HB0.o.size)⟩
     | false=>
      rw [hp] at HDS;clear hp;go_wp2
      go_roundw
      case rel=>exact ⟨k+1,by omega,by go_num,HDS.o,HB2.o⟩
      case measure=>simp [intOf];omega
   ·obtain rfl:k=n:=by omega
    have hfin:r=true:=by
     rw [HR.o];unfold ZbB;rw [Yaz,←HN.o];exact HA.o
    subst hfin;go_wp2;go_ret;exact ⟨rfl,HB.o⟩
