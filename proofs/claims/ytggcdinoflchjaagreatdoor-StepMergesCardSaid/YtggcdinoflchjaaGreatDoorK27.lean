/- laws -/
import Derived.Test.YtggcdinoflchjaaGreatDoorK25
set_option maxRecDepth 100000
set_option maxHeartbeats 16000000
namespace Go.Proofs.YtggcdinoflchjaaGreatDoor
open Go.RowKit
theorem Zkn {l:List UInt8} (h:Zbt l=true):Zak l=false:=by
 rw [Yb7];intro hc;have:=Zdp (Zbf hc);rw [h] at this;cases this
theorem ZlC {l:List UInt8} (h:Zbt l=true):Zas l=false:=by
 rw [Yb7];intro hc;have:=Zdp (ZdF hc);rw [h] at this;cases this
theorem Zj1 (s:List UInt8):(Zak s || decide (0<depN s))=(Zaj s && !Zas s):=by
 cases hE:Zbt s with
 | false=>
  have hd:=ZcQ hE;have hb:Zbo s=s:=by unfold Zbo;rw [hd];simp
  have hr:Zaj s=(Zas s || Zak s):=by unfold Zaj;rw [hd,hb];rfl
  have hn:depN s=0:=by unfold depN;rw [hd];simp
  rw [hn,hr];cases hp:Zas s with
  | true=>rw [Ze3 hp];rfl
  | false=>simp
 | true=>
  have hd:=ZcE hE;rw [Zkn hE,ZlC hE];cases hr:Zaj s with
  | true=>rw [ZbQ hr,hd];simp
  | false=>rw [Zcz hr];rfl
theorem ZbP (op:List UInt8) (n:Int) (s:List UInt8) (h:Nat) (hi:idx op<42) (hh:Zbv (idx op)=h) (h1:h ≠ 1):Zbb op n s=if (decide (n=0) && Za5 h s)=true then 0 else 41:=by
 unfold Zbb;rw [YaA hi,hh];by_cases hn:n=0
 ·rw [Yaq (fun q=>q.2 hn),Yar hn,Yax]
 ·rw [YaA ⟨h1,hn⟩,Yaj hn,YaD];rfl
def ZbV (E:Nat) (w:World) (e:Ending) (w':World):Prop:=e=.returned (.int .i64 (E:Nat))/\Below w.heap.size w w'
theorem ZgN (s:List UInt8) (k:Nat) (hk:k<s.length):(s.take (k+1)).contains 10=((s.take k).contains 10 || (s.getD k 0 == 10)):=by
 rw [List.take_succ_eq_append_getElem hk,List.getD,Yaa hk,Option.getD_some];rw [Ybg,YaS,YbT,YbT,Yap,Yav,beq_iff_eq];exact or_congr Iff.rfl eq_comm

theorem Zij (n:Int) (s:List UInt8) (w:World) (hlim:s.length<=9223372036854775807):Calls Tryz.prog 250 #[insV [110,101,119] n s] w (ZbV (Zbb [110,101,119] n s) w):=by
 have hE:=ZbP [110,101,119] n s 3 (by decide) (by decide) (by decide);have HT:Hid (∀ w,Calls Tryz.prog 22 #[.string (S [110,101,119])] w fun e w'=>e=.returned (.int .i64 2)/\Below w.heap.size w w'):=fun w=>ZaY [110,101,119] w
 have es:=Zae [110,101,119];generalize Zbb [110,101,119] n s=E at hE ⊢;rw [show Za5 3 s=Zak s from rfl] at hE;have HC:Hid (∀ w,Calls Tryz.prog 186 #[.string (S s)] w fun e w'=>e=.returned (.bool (Zak s))/\w=w'):=fun w=>Zcu s w hlim
 generalize Zak s=c at HC hE;have HE:=Hd hE;clear hE;go_enter Tryz.func250,Tryz.ntmps250
 go_wp2_with fail
 have hbA:Below w.heap.size w (w.alloc (.cells #[.string (S [110,101,119]),.int .i64 n,.string (S s)] 48)):=(Yab _ w).alloc (Yac _) _;refine (HT.o _).mono ?_;rintro e w1 ⟨rfl,hb1⟩;have hi1:w1.heap[w.heap.size]? = some (.cells #[.string (S [110,101,119]),.int .i64 n,.string (S s)] 48 (0,0)):=(Yaf (S:=fun _=>False) hb1).heap (heap_alloc_new w _) id;have hbw:Below w.heap.size w w1:=hbA.trans (hb1.mono hbA.size);have hcO:w1.cell? ⟨w.heap.size,0,none⟩=some (.string (S [110,101,119])):=by simp [World.cell?,hi1]
 have hcN:w1.cell? ⟨w.heap.size,1,none⟩=some (.int .i64 n):=by simp [World.cell?,hi1]
 have hcS:w1.cell? ⟨w.heap.size,2,none⟩=some (.string (S s)):=by simp [World.cell?,hi1]
 clear hbA hb1 hi1;by_cases hn:n=0
 ·subst hn;cases c <;> go_wp2_with (go_at_call 186;refine (HC.o _).mono ?_;rintro e w' ⟨rfl,rfl⟩)
  all_goals go_ret
  all_goals exact ⟨by rw [HE.o];rfl,hbw⟩
 ·have e2:(n == 0)=false:=by rw [Yah];exact hn
  have HNN:=Hd hn;clear hn;go_wp2;go_ret;exact ⟨by rw [HE.o,Yaj HNN.o];rfl,hbw⟩
theorem Zjl (n:Int) (s:List UInt8) (w:World) (hlim:s.length<=9223372036854775807):Calls Tryz.prog 250 #[insV [105,115] n s] w (ZbV (Zbb [105,115] n s) w):=by
 have hE:=ZbP [105,115] n s 4 (by decide) (by decide) (by decide);have HT:Hid (∀ w,Calls Tryz.prog 22 #[.string (S [105,115])] w fun e w'=>e=.returned (.int .i64 2)/\Below w.heap.size w w'):=fun w=>ZaY [105,115] w
 have es:=Zae [105,115];generalize Zbb [105,115] n s=E at hE ⊢;rw [show Za5 4 s=(Zak s || decide (0<depN s)) from rfl,Zj1] at hE;have HR:Hid (∀ w,Calls Tryz.prog 127 #[.string (S s)] w fun e w'=>e=.returned (.bool (Zaj s))/\w=w'):=fun w=>ZbS s w hlim
 have HC:Hid (∀ w,Calls Tryz.prog 61 #[.string (S s)] w fun e w'=>e=.returned (.bool (Zas s))/\w=w'):=fun w=>Zbe s w
 generalize Zaj s=r at HR hE;generalize Zas s=c at HC hE;have HE:=Hd hE;clear hE;go_enter Tryz.func250,Tryz.ntmps250
 go_wp2_with fail
 have hbA:Below w.heap.size w (w.alloc (.cells #[.string (S [105,115]),.int .i64 n,.string (S s)] 48)):=(Yab _ w).alloc (Yac _) _;refine (HT.o _).mono ?_;rintro e w1 ⟨rfl,hb1⟩;have hi1:w1.heap[w.heap.size]? = some (.cells #[.string (S [105,115]),.int .i64 n,.string (S s)] 48 (0,0)):=(Yaf (S:=fun _=>False) hb1).heap (heap_alloc_new w _) id;have hbw:Below w.heap.size w w1:=hbA.trans (hb1.mono hbA.size);have hcO:w1.cell? ⟨w.heap.size,0,none⟩=some (.string (S [105,115])):=by simp [World.cell?,hi1]
 have hcN:w1.cell? ⟨w.heap.size,1,none⟩=some (.int .i64 n):=by simp [World.cell?,hi1]
 have hcS:w1.cell? ⟨w.heap.size,2,none⟩=some (.string (S s)):=by simp [World.cell?,hi1]
 clear hbA hb1 hi1;by_cases hn:n=0
 ·subst hn;cases r <;> cases c <;> go_wp2_with (first|(go_at_call 127;refine (HR.o _).mono ?_;rintro e w' ⟨rfl,rfl⟩)|(go_at_call 61;refine (HC.o _).mono ?_;rintro e w' ⟨rfl,rfl⟩))
  all_goals go_ret
  all_goals exact ⟨by rw [HE.o];rfl,hbw⟩
 ·have e2:(n == 0)=false:=by rw [Yah];exact hn
  have HNN:=Hd hn;clear hn;go_wp2;go_ret;exact ⟨by rw [HE.o,Yaj HNN.o];rfl,hbw⟩
theorem Zhb (n:Int) (s:List UInt8) (w:World) (hlim:s.length<=9223372036854775807):Calls Tryz.prog 250 #[insV [99,97,115,116] n s] w (ZbV (Zbb [99,97,115,116] n s) w):=by
 have hE:=ZbP [99,97,115,116] n s 4 (by decide) (by decide) (by decide);have HT:Hid (∀ w,Calls Tryz.prog 22 #[.string (S [99,97,115,116])] w fun e w'=>e=.returned (.int .i64 2)/\Below w.heap.size w w'):=fun w=>ZaY [99,97,115,116] w
 have es:=Zae [99,97,115,116];generalize Zbb [99,97,115,116] n s=E at hE ⊢;rw [show Za5 4 s=(Zak s || decide (0<depN s)) from rfl,Zj1] at hE;have HR:Hid (∀ w,Calls Tryz.prog 127 #[.string (S s)] w fun e w'=>e=.returned (.bool (Zaj s))/\w=w'):=fun w=>ZbS s w hlim
 have HC:Hid (∀ w,Calls Tryz.prog 61 #[.string (S s)] w fun e w'=>e=.returned (.bool (Zas s))/\w=w'):=fun w=>Zbe s w
 generalize Zaj s=r at HR hE;generalize Zas s=c at HC hE;have HE:=Hd hE;clear hE;go_enter Tryz.func250,Tryz.ntmps250
 go_wp2_with fail
 have hbA:Below w.heap.size w (w.alloc (.cells #[.string (S [99,97,115,116]),.int .i64 n,.string (S s)] 48)):=(Yab _ w).alloc (Yac _) _;refine (HT.o _).mono ?_;rintro e w1 ⟨rfl,hb1⟩;have hi1:w1.heap[w.heap.size]? = some (.cells #[.string (S [99,97,115,116]),.int .i64 n,.string (S s)] 48 (0,0)):=(Yaf (S:=fun _=>False) hb1).heap (heap_alloc_new w _) id;have hbw:Below w.heap.size w w1:=hbA.trans (hb1.mono hbA.size);have hcO:w1.cell? ⟨w.heap.size,0,none⟩=some (.string (S [99,97,115,116])):=by simp [World.cell?,hi1]
 have hcN:w1.cell? ⟨w.heap.size,1,none⟩=some (.int .i64 n):=by simp [World.cell?,hi1]
 have hcS:w1.cell? ⟨w.heap.size,2,none⟩=some (.string (S s)):=by simp [World.cell?,hi1]
 clear hbA hb1 hi1;by_cases hn:n=0
 ·subst hn;cases r <;> cases c <;> go_wp2_with (first|(go_at_call 127;refine (HR.o _).mono ?_;rintro e w' ⟨rfl,rfl⟩)|(go_at_call 61;refine (HC.o _).mono ?_;rintro e w' ⟨rfl,rfl⟩))
  all_goals go_ret
  all_goals exact ⟨by rw [HE.o];rfl,hbw⟩
 ·have e2:(n == 0)=false:=by rw [Yah];exact hn
  have HNN:=Hd hn;clear hn;go_wp2;go_ret;exact ⟨by rw [HE.o,Yaj HNN.o];rfl,hbw⟩
theorem Zf6 (n:Int) (s:List UInt8) (w:World) (hlim:s.length<=9223372036854775807):Calls Tryz.prog 250 #[insV [97,114,114,97,121] n s] w (ZbV (Zbb [97,114,114,97,121] n s) w):=by
 have hE:=ZbP [97,114,114,97,121] n s 5 (by decide) (by decide) (by decide);have HT:Hid (∀ w,Calls Tryz.prog 22 #[.string (S [97,114,114,97,121])] w fun e w'=>e=.returned (.int .i64 2)/\Below w.heap.size w w'):=fun w=>ZaY [97,114,114,97,121] w
 have es:=Zae [97,114,114,97,121];generalize Zbb [97,114,114,97,121] n s=E at hE ⊢;rw [show Za5 5 s=(Zaj s && decide (ZaV s<=2)) from rfl] at hE;have HR:Hid (∀ w,Calls Tryz.prog 127 #[.string (S s)] w fun e w'=>e=.returned (.bool (Zaj s))/\w=w'):=fun w=>ZbS s w hlim
 have HC:Hid (∀ w,Calls Tryz.prog 194 #[.string (S s)] w fun e w'=>e=.returned (.int .i64 (ZaV s:Nat))/\w=w'):=fun w=>Zec s w hlim
 generalize Zaj s=r at HR hE;generalize ZaV s=d at HC hE;have HE:=Hd hE;clear hE;go_enter Tryz.func250,Tryz.ntmps250
 go_wp2_with fail
 have hbA:Below w.heap.size w (w.alloc (.cells #[.string (S [97,114,114,97,121]),.int .i64 n,.string (S s)] 48)):=(Yab _ w).alloc (Yac _) _;refine (HT.o _).mono ?_;rintro e w1 ⟨rfl,hb1⟩;have hi1:w1.heap[w.heap.size]? = some (.cells #[.string (S [97,114,114,97,121]),.int .i64 n,.string (S s)] 48 (0,0)):=(Yaf (S:=fun _=>False) hb1).heap (heap_alloc_new w _) id;have hbw:Below w.heap.size w w1:=hbA.trans (hb1.mono hbA.size);have hcO:w1.cell? ⟨w.heap.size,0,none⟩=some (.string (S [97,114,114,97,121])):=by simp [World.cell?,hi1]
 have hcN:w1.cell? ⟨w.heap.size,1,none⟩=some (.int .i64 n):=by simp [World.cell?,hi1]
 have hcS:w1.cell? ⟨w.heap.size,2,none⟩=some (.string (S s)):=by simp [World.cell?,hi1]
 clear hbA hb1 hi1;by_cases hn:n=0
 ·subst hn;by_cases hd:d<=2
  ·have hd':(d:Int)<3:=by omega
   rw [Yar hd] at HE;clear hd;cases r <;> go_wp2_with (first|(go_at_call 127;refine (HR.o _).mono ?_;rintro e w' ⟨rfl,rfl⟩)|(go_at_call 194;refine (HC.o _).mono ?_;rintro e w' ⟨rfl,rfl⟩))
   all_goals go_ret
   all_goals exact ⟨by rw [HE.o];rfl,hbw⟩
  ·have hd':decide ((d:Int)<3)=false:=by simp;omega
   rw [Yaj hd] at HE;clear hd;cases r <;> go_wp2_with (first|(go_at_call 127;refine (HR.o _).mono ?_;rintro e w' ⟨rfl,rfl⟩)|(go_at_call 194;refine (HC.o _).mono ?_;rintro e w' ⟨rfl,rfl⟩))
   all_goals go_ret
   all_goals exact ⟨by rw [HE.o];rfl,hbw⟩
 ·have e2:(n == 0)=false:=by rw [Yah];exact hn
  have HNN:=Hd hn;clear hn;go_wp2;go_ret;exact ⟨by rw [HE.o,Yaj HNN.o];rfl,hbw⟩
theorem Zii (n:Int) (s:List UInt8) (w:World) (hlim:s.length<=9223372036854775807):Calls Tryz.prog 250 #[insV [103,101,116] n s] w (ZbV (Zbb [103,101,116] n s) w):=by
 have hE:=ZbP [103,101,116] n s 6 (by decide) (by decide) (by decide);have HT:Hid (∀ w,Calls Tryz.prog 22 #[.string (S [103,101,116])] w fun e w'=>e=.returned (.int .i64 2)/\Below w.heap.size w w'):=fun w=>ZaY [103,101,116] w
 have es:=Zae [103,101,116];generalize Zbb [103,101,116] n s=E at hE ⊢;rw [show Za5 6 s=Za3 s from rfl] at hE;have HP:Hid (∀ w,Calls Tryz.prog 259 #[.string (S s)] w fun e w'=>(∃ q,w'=w.drewN q)/\∃ a b,e=.returned (.tuple #[.string a,.string b,.bool (Za3 s)])):=fun w=>(ZdZ s w hlim).mono (by
  rintro e w' ⟨hq,⟨h1,rfl⟩|⟨h1,rfl⟩⟩
  ·exact ⟨hq,_,_,rfl⟩
  ·have:Za3 s=false:=by unfold Za3;rw [Yaj (by omega)];rfl
   rw [this];exact ⟨hq,_,_,rfl⟩)
 generalize Za3 s=c at HP hE;have HE:=Hd hE;clear hE;go_enter Tryz.func250,Tryz.ntmps250
 go_wp2_with fail
 have hbA:Below w.heap.size w (w.alloc (.cells #[.string (S [103,101,116]),.int .i64 n,.string (S s)] 48)):=(Yab _ w).alloc (Yac _) _;refine (HT.o _).mono ?_;rintro e w1 ⟨rfl,hb1⟩;have hi1:w1.heap[w.heap.size]? = some (.cells #[.string (S [103,101,116]),.int .i64 n,.string (S s)] 48 (0,0)):=(Yaf (S:=fun _=>False) hb1).heap (heap_alloc_new w _) id;have hbw:Below w.heap.size w w1:=hbA.trans (hb1.mono hbA.size);have hcO:w1.cell? ⟨w.heap.size,0,none⟩=some (.string (S [103,101,116])):=by simp [World.cell?,hi1]
 have hcN:w1.cell? ⟨w.heap.size,1,none⟩=some (.int .i64 n):=by simp [World.cell?,hi1]
 have hcS:w1.cell? ⟨w.heap.size,2,none⟩=some (.string (S s)):=by simp [World.cell?,hi1]
 clear hbA hb1 hi1;by_cases hn:n=0
 ·subst hn
  go_wp2_with fail
  refine (HP.o _).mono ?_;rintro e w2 ⟨⟨q,hw2⟩,sa,sb,rfl⟩;have hb2:Below w.heap.size w w2:=by rw [hw2];exact hbw.trans (ZaD w1 q |>.mono hbw.size)
  clear hw2;cases c <;> go_wp2
  all_goals go_ret
  all_goals exact ⟨by rw [HE.o];rfl,hb2⟩
 ·have e2:(n == 0)=false:=by rw [Yah];exact hn
  have HNN:=Hd hn;clear hn
  go_wp2_with fail
  refine (HP.o _).mono ?_;rintro e w2 ⟨⟨q,hw2⟩,sa,sb,rfl⟩;have hb2:Below w.heap.size w w2:=by rw [hw2];exact hbw.trans (ZaD w1 q |>.mono hbw.size)
  clear hw2;go_wp2;go_ret;exact ⟨by rw [HE.o,Yaj HNN.o];rfl,hb2⟩
theorem Zik (n:Int) (s:List UInt8) (w:World) (hlim:s.length<=9223372036854775807):Calls Tryz.prog 250 #[insV [112,117,116] n s] w (ZbV (Zbb [112,117,116] n s) w):=by
 have hE:=ZbP [112,117,116] n s 6 (by decide) (by decide) (by decide);have HT:Hid (∀ w,Calls Tryz.prog 22 #[.string (S [112,117,116])] w fun e w'=>e=.returned (.int .i64 2)/\Below w.heap.size w w'):=fun w=>ZaY [112,117,116] w
 have es:=Zae [112,117,116];generalize Zbb [112,117,116] n s=E at hE ⊢;rw [show Za5 6 s=Za3 s from rfl] at hE;have HP:Hid (∀ w,Calls Tryz.prog 259 #[.string (S s)] w fun e w'=>(∃ q,w'=w.drewN q)/\∃ a b,e=.returned (.tuple #[.string a,.string b,.bool (Za3 s)])):=fun w=>(ZdZ s w hlim).mono (by
  rintro e w' ⟨hq,⟨h1,rfl⟩|⟨h1,rfl⟩⟩
  ·exact ⟨hq,_,_,rfl⟩
  ·have:Za3 s=false:=by unfold Za3;rw [Yaj (by omega)];rfl
   rw [this];exact ⟨hq,_,_,rfl⟩)
 generalize Za3 s=c at HP hE;have HE:=Hd hE;clear hE;go_enter Tryz.func250,Tryz.ntmps250
 go_wp2_with fail
 have hbA:Below w.heap.size w (w.alloc (.cells #[.string (S [112,117,116]),.int .i64 n,.string (S s)] 48)):=(Yab _ w).alloc (Yac _) _;refine (HT.o _).mono ?_;rintro e w1 ⟨rfl,hb1⟩;have hi1:w1.heap[w.heap.size]? = some (.cells #[.string (S [112,117,116]),.int .i64 n,.string (S s)] 48 (0,0)):=(Yaf (S:=fun _=>False) hb1).heap (heap_alloc_new w _) id;have hbw:Below w.heap.size w w1:=hbA.trans (hb1.mono hbA.size);have hcO:w1.cell? ⟨w.heap.size,0,none⟩=some (.string (S [112,117,116])):=by simp [World.cell?,hi1]
 have hcN:w1.cell? ⟨w.heap.size,1,none⟩=some (.int .i64 n):=by simp [World.cell?,hi1]
 have hcS:w1.cell? ⟨w.heap.size,2,none⟩=some (.string (S s)):=by simp [World.cell?,hi1]
 clear hbA hb1 hi1;by_cases hn:n=0
 ·subst hn
  go_wp2_with fail
  refine (HP.o _).mono ?_;rintro e w2 ⟨⟨q,hw2⟩,sa,sb,rfl⟩;have hb2:Below w.heap.size w w2:=by rw [hw2];exact hbw.trans (ZaD w1 q |>.mono hbw.size)
  clear hw2;cases c <;> go_wp2
  all_goals go_ret
  all_goals exact ⟨by rw [HE.o];rfl,hb2⟩
 ·have e2:(n == 0)=false:=by rw [Yah];exact hn
  have HNN:=Hd hn;clear hn
  go_wp2_with fail
  refine (HP.o _).mono ?_;rintro e w2 ⟨⟨q,hw2⟩,sa,sb,rfl⟩;have hb2:Below w.heap.size w w2:=by rw [hw2];exact hbw.trans (ZaD w1 q |>.mono hbw.size)
  clear hw2;go_wp2;go_ret;exact ⟨by rw [HE.o,Yaj HNN.o];rfl,hb2⟩
theorem Zha (n:Int) (s:List UInt8) (w:World) (hlim:s.length<=9223372036854775807):Calls Tryz.prog 250 #[insV [99,97,108,108] n s] w (ZbV (Zbb [99,97,108,108] n s) w):=by
 have hE:=ZbP [99,97,108,108] n s 6 (by decide) (by decide) (by decide);have HT:Hid (∀ w,Calls Tryz.prog 22 #[.string (S [99,97,108,108])] w fun e w'=>e=.returned (.int .i64 2)/\Below w.heap.size w w'):=fun w=>ZaY [99,97,108,108] w
 have es:=Zae [99,97,108,108];generalize Zbb [99,97,108,108] n s=E at hE ⊢;rw [show Za5 6 s=Za3 s from rfl] at hE;have HP:Hid (∀ w,Calls Tryz.prog 259 #[.string (S s)] w fun e w'=>(∃ q,w'=w.drewN q)/\∃ a b,e=.returned (.tuple #[.string a,.string b,.bool (Za3 s)])):=fun w=>(ZdZ s w hlim).mono (by
  rintro e w' ⟨hq,⟨h1,rfl⟩|⟨h1,rfl⟩⟩
  ·exact ⟨hq,_,_,rfl⟩
  ·have:Za3 s=false:=by unfold Za3;rw [Yaj (by omega)];rfl
   rw [this];exact ⟨hq,_,_,rfl⟩)
 generalize Za3 s=c at HP hE;have HE:=Hd hE;clear hE;go_enter Tryz.func250,Tryz.ntmps250
 go_wp2_with fail
 have hbA:Below w.heap.size w (w.alloc (.cells #[.string (S [99,97,108,108]),.int .i64 n,.string (S s)] 48)):=(Yab _ w).alloc (Yac _) _;refine (HT.o _).mono ?_;rintro e w1 ⟨rfl,hb1⟩;have hi1:w1.heap[w.heap.size]? = some (.cells #[.string (S [99,97,108,108]),.int .i64 n,.string (S s)] 48 (0,0)):=(Yaf (S:=fun _=>False) hb1).heap (heap_alloc_new w _) id;have hbw:Below w.heap.size w w1:=hbA.trans (hb1.mono hbA.size);have hcO:w1.cell? ⟨w.heap.size,0,none⟩=some (.string (S [99,97,108,108])):=by simp [World.cell?,hi1]
 have hcN:w1.cell? ⟨w.heap.size,1,none⟩=some (.int .i64 n):=by simp [World.cell?,hi1]
 have hcS:w1.cell? ⟨w.heap.size,2,none⟩=some (.string (S s)):=by simp [World.cell?,hi1]
 clear hbA hb1 hi1;by_cases hn:n=0
 ·subst hn
  go_wp2_with fail
  refine (HP.o _).mono ?_;rintro e w2 ⟨⟨q,hw2⟩,sa,sb,rfl⟩;have hb2:Below w.heap.size w w2:=by rw [hw2];exact hbw.trans (ZaD w1 q |>.mono hbw.size)
  clear hw2;cases c <;> go_wp2
  all_goals go_ret
  all_goals exact ⟨by rw [HE.o];rfl,hb2⟩
 ·have e2:(n == 0)=false:=by rw [Yah];exact hn
  have HNN:=Hd hn;clear hn
  go_wp2_with fail
  refine (HP.o _).mono ?_;rintro e w2 ⟨⟨q,hw2⟩,sa,sb,rfl⟩;have hb2:Below w.heap.size w w2:=by rw [hw2];exact hbw.trans (ZaD w1 q |>.mono hbw.size)
  clear hw2;go_wp2;go_ret;exact ⟨by rw [HE.o,Yaj HNN.o];rfl,hb2⟩
theorem Zhc (n:Int) (s:List UInt8) (w:World) (hlim:s.length<=9223372036854775807):Calls Tryz.prog 250 #[insV [119,111,114,100] n s] w (ZbV (Zbb [119,111,114,100] n s) w):=by
 have hE:=ZbP [119,111,114,100] n s 2 (by decide) (by decide) (by decide);have HT:Hid (∀ w,Calls Tryz.prog 22 #[.string (S [119,111,114,100])] w fun e w'=>e=.returned (.int .i64 2)/\Below w.heap.size w w'):=fun w=>ZaY [119,111,114,100] w
 have es:=Zae [119,111,114,100];generalize Zbb [119,111,114,100] n s=E at hE ⊢;rw [show Za5 2 s=(decide (s.length<=64) && Lib.validD s && !s.contains 10) from rfl] at hE;have HV:Hid (∀ w,s.length<=64->Calls Tryz.prog 258 #[.string (S s)] w fun e w'=>e=.returned (.bool (Lib.validD s))/\∃ q,w'=w.drewN q):=fun w h=>Zou s w (by omega)
 have hsz:((S s).size:Int)=(s.length:Int):=by rw [ZaB]
 obtain ⟨m,hm⟩:∃ m,m=s.length:=⟨_,rfl⟩
 rw [←hm] at hE hsz;have hm1:m<=9223372036854775807:=by omega
 have HM:=Hd hm;clear hm hlim;obtain ⟨V,hV⟩:∃ V,V=Lib.validD s:=⟨_,rfl⟩
 rw [←hV] at HV hE;clear hV;have HE:=Hd hE;clear hE;go_enter Tryz.func250,Tryz.ntmps250
 go_wp2_with fail
 have hbA:Below w.heap.size w (w.alloc (.cells #[.string (S [119,111,114,100]),.int .i64 n,.string (S s)] 48)):=(Yab _ w).alloc (Yac _) _;refine (HT.o _).mono ?_;rintro e w1 ⟨rfl,hb1⟩;have hi1:w1.heap[w.heap.size]? = some (.cells #[.string (S [119,111,114,100]),.int .i64 n,.string (S s)] 48 (0,0)):=(Yaf (S:=fun _=>False) hb1).heap (heap_alloc_new w _) id;have hbw:Below w.heap.size w w1:=hbA.trans (hb1.mono hbA.size);have hcO:w1.cell? ⟨w.heap.size,0,none⟩=some (.string (S [119,111,114,100])):=by simp [World.cell?,hi1]
 have hcN:w1.cell? ⟨w.heap.size,1,none⟩=some (.int .i64 n):=by simp [World.cell?,hi1]
 have hcS:w1.cell? ⟨w.heap.size,2,none⟩=some (.string (S s)):=by simp [World.cell?,hi1]
 clear hbA hb1 hi1;by_cases hn:n=0
 ·subst hn;by_cases h64:m<=64
  ·have h64':(m:Int)<=64:=by omega
   rw [Yar h64] at HE
   go_wp2_with fail
   refine (HV.o _ (by have:=HM.o;omega)).mono ?_;rintro e w2 ⟨rfl,q,hw2⟩;have hbW:Below w.heap.size w w2:=by rw [hw2];exact hbw.trans (ZaD w1 q |>.mono hbw.size)
   have hcS2:w2.cell? ⟨w.heap.size,2,none⟩=some (.string (S s)):=by rw [hw2];exact hcS
   clear hw2 hbw hcO hcN hcS h64 h64';cases V
   ·go_wp2;generalize hW:w2=W at hbW hcS2 ⊢;clear hW
    go_loopw [4,5] (fun v4 v5 wr=>wr=W/\v4=.bool false/\∃ k:Nat,k<=m/\v5=.int .i64 k) (fun _ v5 _=>m - (intOf v5).toNat)
    case atStart=>exact ⟨rfl,rfl,0,Yai _,rfl⟩
    case round=>
     obtain ⟨rfl,rfl,k,hk,rfl⟩:=hrel;by_cases hlt:k<m
     ·go_wp2
      go_roundw
      case rel=>exact ⟨trivial,by first|trivial|rfl,k+1,by omega,by go_num⟩
      case measure=>simp [intOf];omega
     ·obtain rfl:k=m:=by omega
      go_wp2;go_ret;exact ⟨by rw [HE.o];rfl,hbW⟩
   ·go_wp2;generalize hW:w2=W at hbW hcS2 ⊢;clear hW
    go_loopw [4,5] (fun v4 v5 wr=>wr=W/\∃ k:Nat,k<=m/\v5=.int .i64 k/\v4=.bool (!(s.take k).contains 10)) (fun _ v5 _=>m - (intOf v5).toNat)
    case atStart=>exact ⟨rfl,0,Yai _,rfl,rfl⟩
    case round=>
     obtain ⟨rfl,k,hk,rfl,rfl⟩:=hrel;by_cases hlt:k<m
     ·have hkl:k<s.length:=by have:=HM.o;omega
      have hcs:=ZgN s k hkl;obtain ⟨x,hx⟩:∃ x,x=s.getD k 0:=⟨_,rfl⟩
      obtain ⟨c,hc⟩:∃ c,c=x.toNat:=⟨_,rfl⟩
      have hget:∀ h:k<(S s).size,((S s)[k]'h).toNat=c:=fun h=>by rw [hc,hx,S_at s k hkl h]
      rw [←hx] at hcs;have hxc:(x == 10)=decide (c=10):=by
       rw [hc,Ybg,beq_iff_eq,YaO];exact ⟨fun h=>by rw [h];rfl,fun h=>UInt8.toNat_inj.1 h⟩
      rw [hxc] at hcs;have HCS:=Hd hcs;clear hcs hx hc hxc;generalize (s.take k).contains 10=old at HCS ⊢;cases old
      ·by_cases h10:c=10
       ·subst h10;go_wp2
        go_roundw
        case rel=>exact ⟨trivial,k+1,by omega,by go_num,by rw [HCS.o];rfl⟩
        case measure=>simp [intOf];omega
       ·have e10:((c:Int) != 10)=true:=by rw [bne_iff_ne];omega
        have H10:=Hd h10;clear h10;go_wp2
        go_roundw
        case rel=>exact ⟨trivial,k+1,by omega,by go_num,by rw [HCS.o,Yaj H10.o];rfl⟩
        case measure=>simp [intOf];omega
      ·go_wp2
       go_roundw
       case rel=>exact ⟨trivial,k+1,by omega,by go_num,by rw [HCS.o];rfl⟩
       case measure=>simp [intOf];omega
     ·obtain rfl:k=m:=by omega
      have hful:s.take k=s:=Yay (by have:=HM.o;omega);rw [hful];generalize s.contains 10=f at HE ⊢;clear hful;cases f
      ·go_wp2;go_ret;exact ⟨by rw [HE.o];rfl,hbW⟩
      ·go_wp2;go_ret;exact ⟨by rw [HE.o];rfl,hbW⟩
  ·have h64':decide ((m:Int)<=64)=false:=by simp;omega
   rw [Yaj h64] at HE;clear h64;go_wp2;generalize hW:w1=W at hbw hcS ⊢;clear hW hcO hcN;have hbW:=hbw
   go_loopw [4,5] (fun v4 v5 wr=>wr=W/\v4=.bool false/\∃ k:Nat,k<=m/\v5=.int .i64 k) (fun _ v5 _=>m - (intOf v5).toNat)
   case atStart=>exact ⟨rfl,rfl,0,Yai _,rfl⟩
   case round=>
    obtain ⟨rfl,rfl,k,hk,rfl⟩:=hrel;by_cases hlt:k<m
    ·go_wp2
     go_roundw
     case rel=>exact ⟨trivial,by first|trivial|rfl,k+1,by omega,by go_num⟩
     case measure=>simp [intOf];omega
    ·obtain rfl:k=m:=by omega
     go_wp2;go_ret;exact ⟨by rw [HE.o];rfl,hbW⟩
 ·have e2:(n == 0)=false:=by rw [Yah];exact hn
  have HNN:=Hd hn;clear hn;go_wp2;generalize hW:w1=W at hbw hcS ⊢;clear hW hcO hcN;have hbW:=hbw
  go_loopw [4,5] (fun v4 v5 wr=>wr=W/\v4=.bool false/\∃ k:Nat,k<=m/\v5=.int .i64 k) (fun _ v5 _=>m - (intOf v5).toNat)
  case atStart=>exact ⟨rfl,rfl,0,Yai _,rfl⟩
  case round=>
   obtain ⟨rfl,rfl,k,hk,rfl⟩:=hrel;by_cases hlt:k<m
   ·go_wp2
    go_roundw
    case rel=>exact ⟨trivial,by first|trivial|rfl,k+1,by omega,by go_num⟩
    case measure=>simp [intOf];omega
   ·obtain rfl:k=m:=by omega
    go_wp2;go_ret;exact ⟨by rw [HE.o,Yaj HNN.o];rfl,hbW⟩
theorem ZpH:∀ k:Fin 42,2<=Zbv k.val->ZaM k.val=[119,111,114,100]\/ZaM k.val=[110,101,119]\/ZaM k.val=[103,101,116]\/ZaM k.val=[112,117,116]\/ZaM k.val=[99,97,108,108]\/ZaM k.val=[97,114,114,97,121]\/ZaM k.val=[105,115]\/ZaM k.val=[99,97,115,116]:=by decide
theorem Zf7 (op:List UInt8) (n:Int) (s:List UInt8) (w:World) (E:Nat) (t:Int) (ht:t=0\/t=1) (hT:∀ w,Calls Tryz.prog 22 #[.string (S op)] w fun e w'=>e=.returned (.int .i64 t)/\Below w.heap.size w w')
  (hE:E=if ((decide (t=1) || decide (n=0)) && s.isEmpty)=true then 0 else 41):Calls Tryz.prog 250 #[insV op n s] w (ZbV E w):=by
 have HT:=Hd hT;have HE:=Hd hE;clear hT hE;obtain ⟨nz,hnz⟩:∃ nz,nz=(n == 0):=⟨_,rfl⟩
 have hdz:decide (n=0)=nz:=by rw [hnz,Ybg,YaO,beq_iff_eq]
 rw [hdz] at HE;clear hdz;obtain ⟨sz,hsz⟩:∃ sz,sz=s.isEmpty:=⟨_,rfl⟩
 rw [←hsz] at HE;have es:=Zae s;have es2:([] == s)=sz:=by rw [hsz];cases s <;> rfl
 have es3:(s == [])=sz:=by rw [hsz];cases s <;> rfl
 have hsz2:=hsz.symm;have hnz2:=hnz.symm;clear hsz hnz;rcases ht with rfl|rfl
 all_goals go_enter Tryz.func250,Tryz.ntmps250
 all_goals go_wp2_with fail
 all_goals
  have hbA:Below w.heap.size w (w.alloc (.cells #[.string (S op),.int .i64 n,.string (S s)] 48)):=(Yab _ w).alloc (Yac _) _;refine (HT.o _).mono ?_;rintro e w1 ⟨rfl,hb1⟩;have hi1:w1.heap[w.heap.size]? = some (.cells #[.string (S op),.int .i64 n,.string (S s)] 48 (0,0)):=(Yaf (S:=fun _=>False) hb1).heap (heap_alloc_new w _) id;have hbw:Below w.heap.size w w1:=hbA.trans (hb1.mono hbA.size);have hcO:w1.cell? ⟨w.heap.size,0,none⟩=some (.string (S op)):=by simp [World.cell?,hi1]
  have hcN:w1.cell? ⟨w.heap.size,1,none⟩=some (.int .i64 n):=by simp [World.cell?,hi1]
  have hcS:w1.cell? ⟨w.heap.size,2,none⟩=some (.string (S s)):=by simp [World.cell?,hi1]
  clear hbA hb1 hi1;cases nz <;> cases sz <;> go_wp2
 all_goals go_ret
 all_goals exact ⟨by rw [HE.o];rfl,hbw⟩
theorem Zih (op:List UInt8) (n:Int) (s:List UInt8) (w:World) (hlim:s.length<=9223372036854775807):Calls Tryz.prog 250 #[insV op n s] w (ZbV (Zbb op n s) w):=by
 by_cases hN:idx op<42
 ·by_cases h2:2<=Zbv (idx op)
  ·have hop:=beq_iff_eq.1 (ZhR op hN);have h8:=ZpH ⟨idx op,hN⟩ h2;rw [show ZaM (⟨idx op,hN⟩:Fin 42).val=op from hop] at h8;rcases h8 with h|h|h|h|h|h|h|h <;> rw [h]
   ·exact Zhc n s w hlim
   ·exact Zij n s w hlim
   ·exact Zii n s w hlim
   ·exact Zik n s w hlim
   ·exact Zha n s w hlim
   ·exact Zf6 n s w hlim
   ·exact Zjl n s w hlim
   ·exact Zhb n s w hlim
  ·have hE:Zbb op n s=(if Zbv (idx op) ≠ 1/\n ≠ 0 then 41 else if Za5 (Zbv (idx op)) s then 0 else 41):=YaA hN;have hR:refT op=if Zbv (idx op)=1 then 1 else 0:=by
    unfold refT;rw [YaA hN,Yaq h2]
   have hal:Za5 (Zbv (idx op)) s=s.isEmpty:=by
    unfold Za5;rw [Yaq (by omega),Yaq (by omega),Yaq (by omega),Yaq (by omega),Yaq (by omega)];cases s <;> rfl
   rw [hal] at hE;refine Zf7 op n s w _ (refT op) (by rw [hR];split <;> simp) (fun w=>ZaY op w) ?_;rw [hE,hR];by_cases h1:Zbv (idx op)=1
   ·rw [Yaq (fun q=>q.1 h1),YaA h1];rfl
   ·rw [Yaq h1];by_cases hn:n=0
    ·rw [Yaq (fun q=>q.2 hn),Yar hn];rfl
    ·rw [YaA ⟨h1,hn⟩,Yaj hn];rfl
 ·have HE:Hid (Zbb op n s=40):=Hd (Yaq hN);have HT:=Hd (fun w=>(show Calls Tryz.prog 22 #[.string (S op)] w fun e w'=>e=.returned (.int .i64 (-1))/\Below w.heap.size w w' from by
   have h:=ZaY op w;rw [show refT op=-1 from Yaq hN] at h;exact h))
  clear hN;generalize Zbb op n s=E at HE ⊢;go_enter Tryz.func250,Tryz.ntmps250
  go_wp2_with fail
  have hbA:Below w.heap.size w (w.alloc (.cells #[.string (S op),.int .i64 n,.string (S s)] 48)):=(Yab _ w).alloc (Yac _) _;refine (HT.o _).mono ?_;rintro e w1 ⟨rfl,hb1⟩;have hbw:Below w.heap.size w w1:=hbA.trans (hb1.mono hbA.size);clear hb1 hbA;go_wp2;go_ret;exact ⟨by rw [HE.o];rfl,hbw⟩
theorem ZlD (l:List Ins) (sv:Value) (w:World) (hs:ZpQ w sv l) (hlim:∀ x ∈ l,x.s.length<=9223372036854775807) (hlen:l.length<=9223372036854775807) :
  Calls Tryz.prog 230 #[sv] w fun e w'=>e=.returned (.int .i64 (allE l:Nat))/\Below w.heap.size w w':=by
 have HL:=Hd hlim;clear hlim;rcases hs with ⟨ao,cp0,rfl,rfl⟩|⟨b,o,cap,rfl,hc⟩
 ·go_enter Tryz.func230,Tryz.ntmps230;go_wp2
  go_loopw [3] (fun v3 wr=>v3=.int .i64 0/\wr=w) (fun _ _=>0)
  case atStart=>exact ⟨rfl,rfl⟩
  case round=>
   obtain ⟨rfl,rfl⟩:=hrel;go_wp2;go_ret;exact ⟨rfl,Yab _ _⟩
 ·have HC:=Hd hc;obtain ⟨n,hn⟩:∃ n,n=l.length:=⟨_,rfl⟩
  rw [←hn] at hlen ⊢;have HN:=Hd hn;clear hc hn;go_enter Tryz.func230,Tryz.ntmps230;go_wp2
  go_loopw [3] (fun v3 wr=>∃ k:Nat,k<=n/\v3=.int .i64 k/\Below w.heap.size w wr/\allE l=allE (l.drop k)) (fun v3 _=>n - (intOf v3).toNat)
  case atStart=>exact ⟨0,Yai _,rfl,Yab _ _,rfl⟩
  case round=>
   obtain ⟨k,hk,rfl,hb,hall⟩:=hrel;have HA:=Hd hall;have HB:=Hd hb;clear hall hb;by_cases hlt:k<n
   ·have hkl:k<l.length:=by have:=HN.o;omega
    obtain ⟨x,hx⟩:∃ x,l[k]? = some x:=⟨_,Yaa hkl⟩
    obtain ⟨c0,c1,c2⟩:=HC.o k x hx;have ho:=Yaf (S:=fun _=>False) HB.o;have d0:=ho.cell c0 id;have d1:=ho.cell c1 id;have d2:=ho.cell c2 id;have hdr:=Zl5 l k x hx;have HXL:=Hd (HL.o x (Yad hx));obtain ⟨E,hE⟩:∃ E,E=x.e:=⟨_,rfl⟩
    rw [←hE] at hdr;have HCK:Hid (Calls Tryz.prog 250 #[.agg #[.string (S x.op),.int .i64 x.n,.string (S x.s)]] wr (ZbV E wr)):=Hd (by rw [hE];exact Zih x.op x.n x.s wr HXL.o);have HDR:=Hd hdr;clear c0 c1 c2 hx hkl ho hdr hE;have hk0:(0:Int)<=k:=by omega
    have hkn:(k:Int)<(n:Int):=by omega
    go_wp2_with fail
    refine HCK.o.mono ?_;rintro e w1 ⟨rfl,hb1⟩;have hbw:Below w.heap.size w w1:=HB.o.trans (hb1.mono HB.o.size);have HBW:=Hd hbw;clear hb1 hbw d0 d1 d2 HCK;by_cases hz:E=0
    ·subst hz;go_wp2
     go_roundw
     case rel=>exact ⟨k+1,by omega,by go_num,HBW.o,by rw [HA.o];exact HDR.o⟩
     case measure=>simp [intOf];omega
    ·have hzb:((E:Int) != 0)=true:=by rw [bne_iff_ne];omega
     have HZ:=Hd hz;clear hz;go_wp2;go_ret;refine ⟨?_,HBW.o⟩;rw [HA.o,HDR.o,Yaq HZ.o];rfl
   ·obtain rfl:k=n:=by omega
    have hz:allE l=0:=by rw [HA.o,List.drop_of_length_le (by rw [HN.o];exact Yac _)];rfl
    have HZ:=Hd hz;clear hz;go_wp2;go_ret;exact ⟨by rw [HZ.o];rfl,HB.o⟩
