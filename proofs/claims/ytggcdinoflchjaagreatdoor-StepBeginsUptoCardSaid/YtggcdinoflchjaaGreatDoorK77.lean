/- laws -/
import Derived.Test.YtggcdinoflchjaaGreatDoorK68
import Derived.Test.YtggcdinoflchjaaGreatDoorK76
set_option maxRecDepth 100000
set_option maxHeartbeats 16000000
namespace Go.Proofs.YtggcdinoflchjaaGreatDoor
open Go.RowKit
def retI:Ins:=⟨[114,101,116,117,114,110],0,[]⟩
def oneI:List Ins:=[⟨[105,110,116],1,[]⟩,retI]
def m7f:Mth:=⟨[102],[[105,110,116],[65]],[105,110,116],false,3,oneI,[]⟩
def m7g:Mth:=⟨[103],[],[],false,1,[retI],[]⟩
def c7A:Cls:=⟨[65],[79,98,106,101,99,116],[],false,false,false,[⟨[120],[105,110,116],false⟩,⟨[110,101,120,116],[65],false⟩],[m7f,m7g]⟩
def c7B:Cls:=⟨[66],[65],[[73]],false,false,false,[⟨[108],[65,91,93],false⟩],[]⟩
def c7I:Cls:=⟨[73],[79,98,106,101,99,116],[],true,true,false,[],[]⟩
def c7D:Cls:=⟨[68],[79,98,106,101,99,116],[],false,true,false,[],[]⟩
def cls7:List Cls:=[c7A,c7B,c7I,c7D]
theorem Zqr:∀ c ∈ cls7,c.e=0:=by decide +kernel
theorem ZjZ:∀ k c,cls7[k]? = some c->Zad (Zaw cls7 k) c.name=none:=by
 intro k c h
 match k,h with
 | 0,h=>obtain rfl:=Yae h;decide +kernel
 | 1,h=>obtain rfl:=Yae h;decide +kernel
 | 2,h=>obtain rfl:=Yae h;decide +kernel
 | 3,h=>obtain rfl:=Yae h;decide +kernel
 | k+4,h=>simp [cls7] at h
theorem Zoe:∀ c ∈ cls7,(upE (Zat cls7) c.sup).isSome=true:=by decide +kernel
theorem ZjX:∀ c ∈ cls7,ZaH (Zat cls7) c.like=true:=by decide +kernel
theorem ZjY:firstT (ZaI (newT cls7) (newT cls7).length).loop<0:=by decide +kernel
theorem Zil:∀ x ∈ Zb1 (newT cls7) (newT cls7).length,chkT (newT cls7) x=0:=by decide +kernel
theorem ZoB:m7f.held:=⟨by simp [i64,m7f],fun x hx=>by simp [m7f,oneI,retI] at hx;rcases hx with rfl|rfl <;> simp [i64],fun x hx=>by simp [m7f] at hx⟩
theorem ZoC:m7g.held:=⟨by simp [i64,m7g],fun x hx=>by simp [m7g,retI] at hx;subst hx;simp [i64],fun x hx=>by simp [m7g] at hx⟩
theorem Zg5:∀ c ∈ cls7,c.held:=by
 intro c hc m hm;simp [cls7] at hc
 rcases hc with rfl|rfl|rfl|rfl
 ·simp [c7A] at hm
  rcases hm with rfl|rfl
  ·exact ZoB
  ·exact ZoC
 ·simp [c7B] at hm
 ·simp [c7I] at hm
 ·simp [c7D] at hm
theorem ZpW:m7f.Fit:=⟨by simp [m7f,ZaA],by simp [m7f,ZaA],fun x hx=>by simp [m7f] at hx;rcases hx with rfl|rfl <;> simp [ZaA],fun x hx=>by simp [m7f,oneI,retI] at hx;rcases hx with rfl|rfl <;> simp [ZaA],fun x hx=>by simp [m7f] at hx,by simp [m7f],by simp [m7f,oneI],by simp [m7f]⟩
theorem ZpX:m7g.Fit:=⟨by simp [m7g,ZaA],by simp [m7g,ZaA],fun x hx=>by simp [m7g] at hx,fun x hx=>by simp [m7g,retI] at hx;subst hx;simp [ZaA],fun x hx=>by simp [m7g] at hx,by simp [m7g],by simp [m7g],by simp [m7g]⟩
theorem Zjh:∀ c ∈ cls7,c.Fit:=by
 intro c hc;simp [cls7] at hc
 rcases hc with rfl|rfl|rfl|rfl
 ·exact ⟨by simp [c7A,ZaA],by simp [c7A,ZaA],by simp [c7A],fun f hf=>by simp [c7A] at hf;rcases hf with rfl|rfl <;> simp [ZaA],fun m hm=>by simp [c7A] at hm;rcases hm with rfl|rfl <;> first|exact ZpW|exact ZpX,by simp [c7A],by simp [c7A],by simp [c7A]⟩
 ·exact ⟨by simp [c7B,ZaA],by simp [c7B,ZaA],fun x hx=>by simp [c7B] at hx;subst hx;simp [ZaA],fun f hf=>by simp [c7B] at hf;subst hf;simp [ZaA],by simp [c7B],by simp [c7B],by simp [c7B],by simp [c7B]⟩
 ·exact ⟨by simp [c7I,ZaA],by simp [c7I,ZaA],by simp [c7I],by simp [c7I],by simp [c7I],by simp [c7I],by simp [c7I],by simp [c7I]⟩
 ·exact ⟨by simp [c7D,ZaA],by simp [c7D,ZaA],by simp [c7D],by simp [c7D],by simp [c7D],by simp [c7D],by simp [c7D],by simp [c7D]⟩
theorem NewBad.not7 {i:Int} {z:Nat} (h:NewBad cls7 i z):False:=by
 rcases h with ⟨k,c,_,hc,_,hn,_⟩|⟨_,⟨k,c,_,hc,_,hn,_⟩|⟨_,⟨k,c,_,hc,hn,_⟩|⟨_,⟨hn,_⟩|⟨_,k,x,hx,_,_,hn,_⟩⟩⟩⟩
 ·exact hn (Zqr c (Yaf hc))
 ·rw [ZjZ k c hc] at hn;cases hn
 ·rcases hn with ⟨_,hn⟩|⟨_,_,hn⟩
  ·have:=Zoe c (Yaf hc);rw [hn] at this;cases this
  ·have:=ZjX c (Yaf hc);rw [hn] at this;cases this
 ·have:=ZjY;omega
 ·exact hn (Zil x (Yaf hx))
theorem Zod (W:World) (b0 b1 b2 b3 b4 b5 b6 b7:Nat) (h0:Box W b0 #[.string ⟨#[105,110,116]⟩,.int .i64 1,.string ⟨#[]⟩,.string ⟨#[114,101,116,117,114,110]⟩,.int .i64 0,.string ⟨#[]⟩] 48) (h1:Box W b1 #[.string ⟨#[120]⟩,.string ⟨#[105,110,116]⟩,.bool false,.string ⟨#[110,101,120,116]⟩,.string ⟨#[65]⟩,.bool false] 99) (h2:Box W b2 #[.string ⟨#[105,110,116]⟩,.string ⟨#[65]⟩] 9) (h3:Box W b3 #[.string ⟨#[114,101,116,117,114,110]⟩,.int .i64 0,.string ⟨#[]⟩] 48) (h4:Box W b4 #[.string ⟨#[102]⟩,.slice (some ⟨b2,0,none⟩) 2 2,.string ⟨#[105,110,116]⟩,.bool false,.int .i64 3,.slice (some ⟨b0,0,none⟩) 2 2,.slice none 0 0,.string ⟨#[103]⟩,.slice none 0 0,.string ⟨#[]⟩,.bool false,.int .i64 1,.slice (some ⟨b3,0,none⟩) 1 1,.slice none 0 0] 44) (h5:Box W b5 #[.string ⟨#[73]⟩] 9) (h6:Box W b6 #[.string ⟨#[108]⟩,.string ⟨#[65,91,93]⟩,.bool false] 99) (h7:Box W b7 #[.string ⟨#[65]⟩,.string ⟨#[79,98,106,101,99,116]⟩,.slice none 0 0,.bool false,.bool false,.bool false,.slice (some ⟨b1,0,none⟩) 2 2,.slice (some ⟨b4,0,none⟩) 2 2,.string ⟨#[66]⟩,.string ⟨#[65]⟩,.slice (some ⟨b5,0,none⟩) 1 1,.bool false,.bool false,.bool false,.slice (some ⟨b6,0,none⟩) 1 1,.slice none 0 0,.string ⟨#[73]⟩,.string ⟨#[79,98,106,101,99,116]⟩,.slice none 0 0,.bool true,.bool true,.bool false,.slice none 0 0,.slice none 0 0,.string ⟨#[68]⟩,.string ⟨#[79,98,106,101,99,116]⟩,.slice none 0 0,.bool false,.bool true,.bool false,.slice none 0 0,.slice none 0 0] 87):Src 8 ClsR Anyw W (.slice (some ⟨b7,0,none⟩) 4 4) cls7:=by
 have s0:Src 3 InsR Anyw W (.slice (some ⟨b0,0,none⟩) 2 2) oneI:=Zco oneI [(.agg #[.string ⟨#[105,110,116]⟩,.int .i64 1,.string ⟨#[]⟩]),(.agg #[.string ⟨#[114,101,116,117,114,110]⟩,.int .i64 0,.string ⟨#[]⟩])] 2 _ rfl rfl (by decide) (fun k x u hx hu=>by
  match k,hx,hu with
  | 0,hx,hu=>obtain rfl:=Yae hx;obtain rfl:=Yae hu;exact rfl
  | 1,hx,hu=>obtain rfl:=Yae hx;obtain rfl:=Yae hu;exact rfl
  | k+2,hx,_=>cases hx) (fun u hu=>by simp only [Yav,Ya9,or_false] at hu;rcases hu with rfl|rfl <;> rfl) rfl h0
 have s1:Src 3 FldR Anyw W (.slice (some ⟨b1,0,none⟩) 2 2) c7A.flds:=Zco c7A.flds [(.agg #[.string ⟨#[120]⟩,.string ⟨#[105,110,116]⟩,.bool false]),(.agg #[.string ⟨#[110,101,120,116]⟩,.string ⟨#[65]⟩,.bool false])] 2 _ rfl rfl (by decide) (fun k x u hx hu=>by
  match k,hx,hu with
  | 0,hx,hu=>obtain rfl:=Yae hx;obtain rfl:=Yae hu;exact rfl
  | 1,hx,hu=>obtain rfl:=Yae hx;obtain rfl:=Yae hu;exact rfl
  | k+2,hx,_=>cases hx) (fun u hu=>by simp only [Yav,Ya9,or_false] at hu;rcases hu with rfl|rfl <;> rfl) rfl h1
 have s2:Src 1 StrR Anyw W (.slice (some ⟨b2,0,none⟩) 2 2) m7f.params:=Zco m7f.params [(.string ⟨#[105,110,116]⟩),(.string ⟨#[65]⟩)] 2 _ rfl rfl (by decide) (fun k x u hx hu=>by
  match k,hx,hu with
  | 0,hx,hu=>obtain rfl:=Yae hx;obtain rfl:=Yae hu;exact rfl
  | 1,hx,hu=>obtain rfl:=Yae hx;obtain rfl:=Yae hu;exact rfl
  | k+2,hx,_=>cases hx) (fun u hu=>by simp only [Yav,Ya9,or_false] at hu;rcases hu with rfl|rfl <;> rfl) rfl h2
 have s3:Src 3 InsR Anyw W (.slice (some ⟨b3,0,none⟩) 1 1) m7g.code:=Zco m7g.code [(.agg #[.string ⟨#[114,101,116,117,114,110]⟩,.int .i64 0,.string ⟨#[]⟩])] 1 _ rfl rfl (by decide) (fun k x u hx hu=>by
  match k,hx,hu with
  | 0,hx,hu=>obtain rfl:=Yae hx;obtain rfl:=Yae hu;exact rfl
  | k+1,hx,_=>cases hx) (fun u hu=>by simp only [Yav,Ya9,or_false] at hu;subst hu;rfl) rfl h3
 have s4:Src 7 MthR Anyw W (.slice (some ⟨b4,0,none⟩) 2 2) c7A.mths:=Zco c7A.mths [(.agg #[.string ⟨#[102]⟩,.slice (some ⟨b2,0,none⟩) 2 2,.string ⟨#[105,110,116]⟩,.bool false,.int .i64 3,.slice (some ⟨b0,0,none⟩) 2 2,.slice none 0 0]),(.agg #[.string ⟨#[103]⟩,.slice none 0 0,.string ⟨#[]⟩,.bool false,.int .i64 1,.slice (some ⟨b3,0,none⟩) 1 1,.slice none 0 0])] 2 _ rfl rfl (by decide) (fun k x u hx hu=>by
  match k,hx,hu with
  | 0,hx,hu=>obtain rfl:=Yae hx;obtain rfl:=Yae hu;exact ⟨_,_,_,rfl,s2,s0,Src.nil⟩
  | 1,hx,hu=>obtain rfl:=Yae hx;obtain rfl:=Yae hu;exact ⟨_,_,_,rfl,Src.nil,s3,Src.nil⟩
  | k+2,hx,_=>cases hx) (fun u hu=>by simp only [Yav,Ya9,or_false] at hu;rcases hu with rfl|rfl <;> rfl) rfl h4
 have s5:Src 1 StrR Anyw W (.slice (some ⟨b5,0,none⟩) 1 1) c7B.like:=Zco c7B.like [(.string ⟨#[73]⟩)] 1 _ rfl rfl (by decide) (fun k x u hx hu=>by
  match k,hx,hu with
  | 0,hx,hu=>obtain rfl:=Yae hx;obtain rfl:=Yae hu;exact rfl
  | k+1,hx,_=>cases hx) (fun u hu=>by simp only [Yav,Ya9,or_false] at hu;subst hu;rfl) rfl h5
 have s6:Src 3 FldR Anyw W (.slice (some ⟨b6,0,none⟩) 1 1) c7B.flds:=Zco c7B.flds [(.agg #[.string ⟨#[108]⟩,.string ⟨#[65,91,93]⟩,.bool false])] 1 _ rfl rfl (by decide) (fun k x u hx hu=>by
  match k,hx,hu with
  | 0,hx,hu=>obtain rfl:=Yae hx;obtain rfl:=Yae hu;exact rfl
  | k+1,hx,_=>cases hx) (fun u hu=>by simp only [Yav,Ya9,or_false] at hu;subst hu;rfl) rfl h6
 have s7:Src 8 ClsR Anyw W (.slice (some ⟨b7,0,none⟩) 4 4) cls7:=Zco cls7 [(.agg #[.string ⟨#[65]⟩,.string ⟨#[79,98,106,101,99,116]⟩,.slice none 0 0,.bool false,.bool false,.bool false,.slice (some ⟨b1,0,none⟩) 2 2,.slice (some ⟨b4,0,none⟩) 2 2]),(.agg #[.string ⟨#[66]⟩,.string ⟨#[65]⟩,.slice (some ⟨b5,0,none⟩) 1 1,.bool false,.bool false,.bool false,.slice (some ⟨b6,0,none⟩) 1 1,.slice none 0 0]),(.agg #[.string ⟨#[73]⟩,.string ⟨#[79,98,106,101,99,116]⟩,.slice none 0 0,.bool true,.bool true,.bool false,.slice none 0 0,.slice none 0 0]),(.agg #[.string ⟨#[68]⟩,.string ⟨#[79,98,106,101,99,116]⟩,.slice none 0 0,.bool false,.bool true,.bool false,.slice none 0 0,.slice none 0 0])] 4 _ rfl rfl (by decide) (fun k x u hx hu=>by
  match k,hx,hu with
  | 0,hx,hu=>obtain rfl:=Yae hx;obtain rfl:=Yae hu;exact ⟨_,_,_,rfl,Src.nil,s1,s4⟩
  | 1,hx,hu=>obtain rfl:=Yae hx;obtain rfl:=Yae hu;exact ⟨_,_,_,rfl,s5,s6,Src.nil⟩
  | 2,hx,hu=>obtain rfl:=Yae hx;obtain rfl:=Yae hu;exact ⟨_,_,_,rfl,Src.nil,Src.nil,Src.nil⟩
  | 3,hx,hu=>obtain rfl:=Yae hx;obtain rfl:=Yae hu;exact ⟨_,_,_,rfl,Src.nil,Src.nil,Src.nil⟩
  | k+4,hx,_=>cases hx) (fun u hu=>by simp only [Yav,Ya9,or_false] at hu;rcases hu with rfl|rfl|rfl|rfl <;> rfl) rfl h7
 exact s7
def ZeK (w:World) (e:Ending) (w':World):Prop:=∃ v,e=.returned v/\Src 8 ClsR Anyw w' v cls7/\Below w.heap.size w w'
theorem ZeA (w:World):Calls Tryz.prog 26 #[] w (ZeK w):=by
 unfold ZeK;go_enter Tryz.func26,Tryz.ntmps26
 go_wp2_with fail
 go_ret;refine ⟨_,rfl,Zod _ w.heap.size (w.heap.size+1) (w.heap.size+1+1) (w.heap.size+1+1+1) (w.heap.size+1+1+1+1) (w.heap.size+1+1+1+1+1) (w.heap.size+1+1+1+1+1+1) (w.heap.size+1+1+1+1+1+1+1) ?_ ?_ ?_ ?_ ?_ ?_ ?_ ?_,?_⟩
 case refine_9=>exact Zaa (Zaa (Zaa (Zaa (Zaa (Zaa (Zaa (Zaa (Yab _ _) _) _) _) _) _) _) _) _
 all_goals
  unfold Box
  repeat (first|(exact Zaf _ _ _ (by simp))|(with_reducible apply Zaq))
def Zid (w:World) (e:Ending) (w':World):Prop:=NewOk cls7/\∃ (T mb:Nat) (B:Nat->Nat) (A:Nat->Prop) (v:Value),e=.returned (.tuple #[.pointer (some ⟨T,0,none⟩),v])/\Tab A w' T mb B (newT cls7)/\Src 8 ClsR Anyw w' v (allR cls7)/\Below w.heap.size w w'
theorem Zja (w:World) (hF:FaultTab w) (hC:CT w):Calls Tryz.prog 10 #[] w (Zid w):=by
 have HF:=Hd hF;have HC:=Hd hC;clear hF hC;unfold Zid;go_enter Tryz.func10,Tryz.ntmps10
 go_wp2_with fail
 with_reducible refine (ZeA w).mono ?_
 unfold ZeK;rintro e w1 ⟨v,rfl,hs,hb1⟩;have HN:=Hd (ZpY cls7 v w1 hs (HF.o.keep hb1) (HC.o.keep hb1) Zjh Zg5 (by decide));have HB1:=Hd hb1;clear hs hb1
 go_wp2_with fail
 with_reducible refine HN.o.mono ?_
 rintro e w2 h;rcases h with ⟨i,z,hbad,_⟩|⟨ok,T,mb,B,rfl,tb,hb2⟩
 ·exact hbad.not7.elim
 have HOK:=Hd ok;have HT:=Hd tb.tab;have HB2:=Hd (HB1.o.trans (hb2.mono HB1.o.size));clear ok tb hb2 HN
 go_wp2_with fail
 with_reducible refine (ZeA w2).mono ?_
 unfold ZeK;rintro e w3 ⟨v3,rfl,hs3,hb3⟩;have HN:=Hd (Zo1 cls7 v3 w3 hs3 Zjh Zg5 (by decide));have HB3:=Hd (HB2.o.trans (hb3.mono HB2.o.size));have HT3:=Hd (HT.o.below hb3);clear hs3 hb3 HT
 go_wp2_with fail
 with_reducible refine HN.o.mono ?_
 unfold Zpw;rintro e w4 h;rcases h with ⟨i,z,hbad,_⟩|⟨_,v4,rfl,hsrc,hb4⟩
 ·exact hbad.not7.elim
 have HB4:=Hd (HB3.o.trans (hb4.mono HB3.o.size));have HT4:=Hd (HT3.o.below hb4);have HS4:=Hd hsrc;clear hsrc hb4 HT3 HN;go_wp2
 go_ret2
 exact ⟨HOK.o,T,mb,B,_,v4,rfl,HT4.o,HS4.o,HB4.o⟩
def addL:List UInt8:=[97,100,100]
def nul7:List UInt8:=[110,117,108,108]
def tar7:List UInt8:=[116,101,120,116,91,93]
theorem ZpL:Zl4 addL=some 74:=by decide +kernel
theorem ZjF:subE (newT cls7) intL intL=true:=by decide +kernel
theorem Zov:ZfA (newT cls7) nul7 tar7=tar7:=by decide +kernel
theorem ZmR:ZhH (newT cls7) ⟨true,[nul7],[]⟩ ⟨true,[tar7],[]⟩=(⟨true,[tar7],[]⟩,0):=by
 unfold ZhH Zbv;simp only [List.zipWith_cons_cons,List.zipWith_nil_left,Zov];rfl
theorem ZeO {W:World} {b:Nat} {t:TypeId} (l:List (List UInt8)) (n:Nat) (cs:Array Value) (hn:n=l.length) (hm:l.length<=9223372036854775807) (hc:cs=(l.map strV).toArray) (h:W.heap[b]? = some (.cells cs t (0,0))):Src 1 StrR Anyw W (.slice (some ⟨b,0,none⟩) n n) l:=
 Zco l (l.map strV) n cs hn (Yaz ..) hm (fun k x u hx hu=>by rw [Yau,hx] at hu;exact (Yae hu).symm) (fun u hu=>by obtain ⟨x,_,rfl⟩:=Ya6.1 hu;rfl) (by rw [Zig Zbc];exact hc) h
theorem ZnB {W:World} {b:Nat} {t:TypeId} (x:List UInt8) (h:W.heap[b]? = some (.cells #[.string (S x)] t (0,0))):ShpR Anyw W ⟨true,[x],[]⟩ (.agg #[.bool true,.slice (some ⟨b,0,none⟩) 1 1,.slice none 0 0]):=
 ⟨_,_,rfl,ZeO [x] 1 _ rfl (by simp) rfl h,Src.nil⟩
theorem Zqy {A:Nat->Prop} {B:Nat->Nat} {T mb:Nat} {w1:World} (hT:Tab A w1 T mb B (newT cls7)) (hS:Shape (newT cls7)) (sv:Value) (w:World) (hw:Below w1.heap.size w1 w) (hs:ShpR Anyw w ⟨true,[intL,intL],[]⟩ sv) :
  Calls Tryz.prog 23 #[.pointer (some ⟨T,0,none⟩),.agg #[.string ⟨#[]⟩,.slice none 0 0,.string ⟨#[]⟩,.bool false,.int .i64 0,.slice none 0 0,.slice none 0 0],.agg #[.string ⟨#[97,100,100]⟩,.int .i64 0,.string ⟨#[]⟩],sv] w (DoG (⟨true,[intL],[]⟩,0) w):=by
 have hsm:(⟨true,[intL,intL],[]⟩:Shp).Small:=⟨by decide,by decide,fun x hx=>by simp only [Yav,Ya9,or_false,or_self] at hx;subst hx;decide,fun x hx=>by cases hx⟩;have h:=ZpJ 74 T [] [] addL [] none none none 0 0 0 0 0 0 false 0 0 ⟨true,[intL,intL],[]⟩ sv w1 w hw hs hsm ZpL (by decide) (Zai Tryz.func74 (by kernel_rfl) rfl) [intL] [] 0
  (fun X lo W h1 h2 hst=>Zj3 hT hS X lo _ rfl [] [] intL intL W hst (by decide) ZjF ZjF (fun x hx=>by simp only [Ybm,Yav,Ya9,or_false,or_self] at hx;subst hx;decide))
 exact h
theorem ZjP (w:World) (hF:FaultTab w) (hC:CT w):Calls Tryz.prog 11 #[] w (Said true w):=by
 have HTB:=Hd (Zja w hF hC);unfold Zid at HTB;go_enter Tryz.func11,Tryz.ntmps11
 go_wp2_with fail
 with_reducible refine HTB.o.mono ?_
 rintro e w1 ⟨ok,T,mb,B,A,v,rfl,ht,hsrc,hb1⟩;obtain ⟨vo,vc,rfl⟩:=hsrc.shape;have hlen:(allR cls7).length=12:=by decide
 rw [hlen];have HT:=Hd ht;have HS:=Hd ok.shape;have HB1:=Hd hb1;clear ok ht hsrc hb1 hF hC HTB hlen
 go_wp2_with fail
 have hbA:Below w1.heap.size w1 (w1.alloc (.cells #[.string ⟨#[105,110,116]⟩,.string ⟨#[105,110,116]⟩] 9)):=Zaa (Yab _ _) _;refine (Zqy HT.o HS.o _ _ hbA ⟨_,_,rfl,ZeO [intL,intL] 2 _ rfl (by decide) rfl (heap_alloc_new w1 _),Src.nil⟩).mono ?_;unfold DoG;rintro e w2 ⟨v2,rfl,hr2,hb2⟩;obtain ⟨so2,sc2,lo2,lc2,rfl⟩:=hr2.shape;have R2:=Hd hr2;have HB2:=Hd (HB1.o.trans ((hbA.trans (hb2.mono hbA.size)).mono HB1.o.size));have HW2:=Hd (hbA.trans (hb2.mono hbA.size));clear hr2 hb2 hbA;show _
 simp only at R2 ⊢
 go_wp2_with fail
 have hb3:Below w2.heap.size w2 (((w2.alloc (.cells #[.bool true,.slice so2 1 sc2,.slice lo2 0 lc2] 24)).alloc (.cells #[.string ⟨#[110,117,108,108]⟩] 9)).alloc (.cells #[.string ⟨#[116,101,120,116,91,93]⟩] 9)):=Zaa (Zaa (Zaa (Yab _ _) _) _) _;have hxa:Box (((w2.alloc (.cells #[.bool true,.slice so2 1 sc2,.slice lo2 0 lc2] 24)).alloc (.cells #[.string ⟨#[110,117,108,108]⟩] 9)).alloc (.cells #[.string ⟨#[116,101,120,116,91,93]⟩] 9)) w2.heap.size #[.bool true,.slice so2 1 sc2,.slice lo2 0 lc2] 24:=by
  unfold Box
  repeat (first|(exact Zaf _ _ _ (by simp))|(with_reducible apply Zaq))
 have hs1:ShpR Anyw (((w2.alloc (.cells #[.bool true,.slice so2 1 sc2,.slice lo2 0 lc2] 24)).alloc (.cells #[.string ⟨#[110,117,108,108]⟩] 9)).alloc (.cells #[.string ⟨#[116,101,120,116,91,93]⟩] 9)) ⟨true,[nul7],[]⟩ (.agg #[.bool true,.slice (some ⟨w2.heap.size+1,0,none⟩) 1 1,.slice none 0 0]):=⟨_,_,rfl,ZeO (t:=9) [nul7] 1 #[.string ⟨#[110,117,108,108]⟩] rfl (by decide) rfl (by repeat (first|(exact Zaf _ _ _ (by simp))|(with_reducible apply Zaq))),Src.nil⟩;have hs2:ShpR Anyw (((w2.alloc (.cells #[.bool true,.slice so2 1 sc2,.slice lo2 0 lc2] 24)).alloc (.cells #[.string ⟨#[110,117,108,108]⟩] 9)).alloc (.cells #[.string ⟨#[116,101,120,116,91,93]⟩] 9)) ⟨true,[tar7],[]⟩ (.agg #[.bool true,.slice (some ⟨w2.heap.size+1+1,0,none⟩) 1 1,.slice none 0 0]):=⟨_,_,rfl,ZeO (t:=9) [tar7] 1 #[.string ⟨#[116,101,120,116,91,93]⟩] rfl (by decide) rfl (by repeat (first|(exact Zaf _ _ _ (by simp))|(with_reducible apply Zaq))),Src.nil⟩;have hm:=Zkr HT.o HS.o ⟨true,[nul7],[]⟩ ⟨true,[tar7],[]⟩ _ _ (((w2.alloc (.cells #[.bool true,.slice so2 1 sc2,.slice lo2 0 lc2] 24)).alloc (.cells #[.string ⟨#[110,117,108,108]⟩] 9)).alloc (.cells #[.string ⟨#[116,101,120,116,91,93]⟩] 9)) (HW2.o.trans (hb3.mono HW2.o.size)) hs1 hs2 ⟨by decide,by decide,fun x hx=>by simp only [Yav,Ya9,or_false] at hx;subst hx;decide,fun x hx=>by cases hx⟩ ⟨by decide,by decide,fun x hx=>by simp only [Yav,Ya9,or_false] at hx;subst hx;decide,fun x hx=>by cases hx⟩;rw [ZmR] at hm;have HM:=Hd hm;have HXA:=Hd hxa;have HB3:=Hd (HB2.o.trans (hb3.mono HB2.o.size));have R3:=Hd (ShpR.below R2.o hb3);clear hm hs1 hs2 hb3 hxa;unfold DoG at HM;refine HM.o.mono ?_;rintro e w4 ⟨v4,rfl,hr4,hb4⟩;obtain ⟨so4,sc4,lo4,lc4,rfl⟩:=hr4.shape;have R4:=Hd hr4;have R24:=Hd (ShpR.below R3.o hb4);have HB4:=Hd (HB3.o.trans (hb4.mono HB3.o.size));have hb5:Below w4.heap.size w4 (w4.alloc (.cells #[.bool true,.slice so4 1 sc4,.slice lo4 0 lc4] 24)):=Zaa (Yab _ _) _;have hxa5:=(HXA.o.below hb4).below hb5;have hxb5:Box (w4.alloc (.cells #[.bool true,.slice so4 1 sc4,.slice lo4 0 lc4] 24)) w4.heap.size #[.bool true,.slice so4 1 sc4,.slice lo4 0 lc4] 24:=Box.new w4 _ _;have a0:=hxa5.cell 0 rfl;have a1:=hxa5.cell 1 rfl;have a2:=hxa5.cell 2 rfl;have XA5:=Hd hxa5;have XB5:=Hd hxb5;have R45:=Hd (ShpR.below R4.o hb5);have R25:=Hd (ShpR.below R24.o hb5);have HB5:=Hd (HB4.o.trans (hb5.mono HB4.o.size));clear hr4 hb4 HM hxa5 hxb5 hb5;simp only at R45 R25 ⊢;have hb6:Below (w4.alloc (.cells #[.bool true,.slice so4 1 sc4,.slice lo4 0 lc4] 24)).heap.size (w4.alloc (.cells #[.bool true,.slice so4 1 sc4,.slice lo4 0 lc4] 24)) ((w4.alloc (.cells #[.bool true,.slice so4 1 sc4,.slice lo4 0 lc4] 24)).alloc (.cells #[.string ⟨#[105,110,116]⟩] 9)):=Zaa (Yab _ _) _;have HSA:Hid (Calls Tryz.prog 15 #[.agg #[.bool true,.slice so2 1 sc2,.slice lo2 0 lc2],.agg #[.bool true,.slice (some ⟨w4.heap.size+1,0,none⟩) 1 1,.slice none 0 0]] ((w4.alloc (.cells #[.bool true,.slice so4 1 sc4,.slice lo4 0 lc4] 24)).alloc (.cells #[.string ⟨#[105,110,116]⟩] 9)) (Said true ((w4.alloc (.cells #[.bool true,.slice so4 1 sc4,.slice lo4 0 lc4] 24)).alloc (.cells #[.string ⟨#[105,110,116]⟩] 9)))):=Hd
  (Zex ⟨true,[intL],[]⟩ ⟨true,[intL],[]⟩ _ _ ((w4.alloc (.cells #[.bool true,.slice so4 1 sc4,.slice lo4 0 lc4] 24)).alloc (.cells #[.string ⟨#[105,110,116]⟩] 9)) (ShpR.below R25.o hb6) (ZnB (t:=9) intL (Zaf _ _ _ (by simp))) ⟨by decide,by decide⟩ ⟨by decide,by decide⟩)
 have XA6:=Hd (XA5.o.below hb6);have XB6:=Hd (XB5.o.below hb6);have R26:=Hd (ShpR.below R25.o hb6);have R46:=Hd (ShpR.below R45.o hb6);have HB6:=Hd (HB5.o.trans (hb6.mono HB5.o.size));clear hb6
 go_wp2_with fail
 with_reducible refine HSA.o.mono ?_
 rintro e w7 ⟨rfl,hb7⟩;have hxb7:=XB6.o.below hb7;have hxa7:=XA6.o.below hb7;have HB7:=Hd (HB6.o.trans (hb7.mono HB6.o.size));have R27:=Hd (ShpR.below R26.o hb7);have R47:=Hd (ShpR.below R46.o hb7);have b0:=hxb7.cell 0 rfl;have b1:=hxb7.cell 1 rfl;have b2:=hxb7.cell 2 rfl;have XA7:=Hd hxa7;clear a0 a1 a2 hb7 hxb7 hxa7 HSA;have hb8:Below w7.heap.size w7 (w7.alloc (.cells #[.string ⟨#[116,101,120,116,91,93]⟩] 9)):=Zaa (Yab _ _) _;have HSB:Hid (Calls Tryz.prog 15 #[.agg #[.bool true,.slice so4 1 sc4,.slice lo4 0 lc4],.agg #[.bool true,.slice (some ⟨w7.heap.size,0,none⟩) 1 1,.slice none 0 0]] (w7.alloc (.cells #[.string ⟨#[116,101,120,116,91,93]⟩] 9)) (Said true (w7.alloc (.cells #[.string ⟨#[116,101,120,116,91,93]⟩] 9)))):=Hd
  (Zex ⟨true,[tar7],[]⟩ ⟨true,[tar7],[]⟩ _ _ _ (ShpR.below R47.o hb8) (ZnB (t:=9) tar7 (heap_alloc_new w7 _)) ⟨by decide,by decide⟩ ⟨by decide,by decide⟩)
 have XA8:=Hd (XA7.o.below hb8);have R28:=Hd (ShpR.below R27.o hb8);have HB8:=Hd (HB7.o.trans (hb8.mono HB7.o.size));clear hb8
 go_wp2_with fail
 with_reducible refine HSB.o.mono ?_
 rintro e w9 ⟨rfl,hb9⟩;have hxa9:=XA8.o.below hb9;have a0:=hxa9.cell 0 rfl;have a1:=hxa9.cell 1 rfl;have a2:=hxa9.cell 2 rfl;have R29:=ShpR.below R28.o hb9;have HSC:Hid (Calls Tryz.prog 16 #[.agg #[.bool true,.slice so2 1 sc2,.slice lo2 0 lc2],.agg #[.bool true,.slice so2 1 sc2,.slice lo2 0 lc2]] w9 (Said true w9)):=Hd
  (Zny ⟨true,[intL],[]⟩ ⟨true,[intL],[]⟩ _ _ w9 R29 R29 ⟨by decide,by decide⟩ ⟨by decide,by decide⟩)
 have HB9:=Hd (HB8.o.trans (hb9.mono HB8.o.size));clear b0 b1 b2 hb9 hxa9 R29 HSB
 go_wp2_with fail
 with_reducible refine HSC.o.mono ?_
 rintro e w10 ⟨rfl,hb10⟩;have HB10:=Hd (HB9.o.trans (hb10.mono HB9.o.size));clear hb10 HSC;go_wp2;go_ret;exact ⟨rfl,HB10.o⟩
