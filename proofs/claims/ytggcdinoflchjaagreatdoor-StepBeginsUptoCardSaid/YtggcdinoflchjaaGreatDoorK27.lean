/- laws -/
import Derived.Test.YtggcdinoflchjaaGreatDoorK25
set_option maxRecDepth 100000
set_option maxHeartbeats 16000000
namespace Go.Proofs.YtggcdinoflchjaaGreatDoor
open Go.RowKit
theorem ZjV {l:List UInt8} (h:Zbk l=true):Zal l=false:=by
 rw [Yb1];intro hc;have:=Zde (Zbg hc);rw [h] at this;cases this
theorem Zla {l:List UInt8} (h:Zbk l=true):ZaB l=false:=by
 rw [Yb1];intro hc;have:=Zde (ZdV hc);rw [h] at this;cases this
theorem ZjA (s:List UInt8):(Zal s || decide (0<depN s))=(Zaj s && !ZaB s):=by
 cases hE:Zbk s with
 | false=>
  have hd:=ZcC hE;have hb:Zbe s=s:=by unfold Zbe;rw [hd];simp
  have hr:Zaj s=(ZaB s || Zal s):=by unfold Zaj;rw [hd,hb];rfl
  have hn:depN s=0:=by unfold depN;rw [hd];simp
  rw [hn,hr];cases hp:ZaB s with
  | true=>rw [ZhO hp];rfl
  | false=>simp
 | true=>
  have hd:=Zcr hE;rw [ZjV hE,Zla hE];cases hr:Zaj s with
  | true=>rw [ZbF hr,hd];simp
  | false=>rw [Zdm hr];rfl
theorem ZbE (op:List UInt8) (n:Int) (s:List UInt8) (h:Nat) (hi:idx op<42) (hh:Zbm (idx op)=h) (h1:h ≠ 1):Za1 op n s=if (decide (n=0) && ZaW h s)=true then 0 else 41:=by
 unfold Za1;rw [YaC hi,hh];by_cases hn:n=0
 ·rw [Yas (fun q=>q.2 hn),Yat hn,Yax]
 ·rw [YaC ⟨h1,hn⟩,Yaj hn,YaF];rfl
def ZbK (E:Nat) (w:World) (e:Ending) (w':World):Prop:=e=.returned (.int .i64 (E:Nat))/\Below w.heap.size w w'
theorem Zgi (s:List UInt8) (k:Nat) (hk:k<s.length):(s.take (k+1)).contains 10=((s.take k).contains 10 || (s.getD k 0 == 10)):=by
 rw [List.take_succ_eq_append_getElem hk,List.getD,Yaa hk,Option.getD_some];rw [Ybk,YaX,YbQ,YbQ,Yao,YaA,beq_iff_eq];exact or_congr Iff.rfl eq_comm

theorem ZhT (n:Int) (s:List UInt8) (w:World) (hlim:s.length<=9223372036854775807):Calls Tryz.prog 250 #[insV [110,101,119] n s] w (ZbK (Za1 [110,101,119] n s) w):=by
 have hE:=ZbE [110,101,119] n s 3 (by decide) (by decide) (by decide);have HT:Hid (∀ w,Calls Tryz.prog 22 #[.string (S [110,101,119])] w fun e w'=>e=.returned (.int .i64 2)/\Below w.heap.size w w'):=fun w=>ZaS [110,101,119] w
 have es:=Zae [110,101,119];generalize Za1 [110,101,119] n s=E at hE ⊢;rw [show ZaW 3 s=Zal s from rfl] at hE;have HC:Hid (∀ w,Calls Tryz.prog 186 #[.string (S s)] w fun e w'=>e=.returned (.bool (Zal s))/\w=w'):=fun w=>Zch s w hlim
 generalize Zal s=c at HC hE;have HE:=Hd hE;clear hE;go_enter Tryz.func250,Tryz.ntmps250
 go_wp2_with fail
 have hbA:Below w.heap.size w (w.alloc (.cells #[.string (S [110,101,119]),.int .i64 n,.string (S s)] 48)):=(Yab _ w).alloc (Yac _) _;refine (HT.o _).mono ?_;rintro e w1 ⟨rfl,hb1⟩;have hi1:w1.heap[w.heap.size]? = some (.cells #[.string (S [110,101,119]),.int .i64 n,.string (S s)] 48 (0,0)):=(Yad (S:=fun _=>False) hb1).heap (heap_alloc_new w _) id;have hbw:Below w.heap.size w w1:=hbA.trans (hb1.mono hbA.size);have hcO:w1.cell? ⟨w.heap.size,0,none⟩=some (.string (S [110,101,119])):=by simp [World.cell?,hi1]
 have hcN:w1.cell? ⟨w.heap.size,1,none⟩=some (.int .i64 n):=by simp [World.cell?,hi1]
 have hcS:w1.cell? ⟨w.heap.size,2,none⟩=some (.string (S s)):=by simp [World.cell?,hi1]
 clear hbA hb1 hi1;by_cases hn:n=0
 ·subst hn;cases c <;> go_wp2_with (go_at_call 186;refine (HC.o _).mono ?_;rintro e w' ⟨rfl,rfl⟩)
  all_goals go_ret
  all_goals exact ⟨by rw [HE.o];rfl,hbw⟩
 ·have e2:(n == 0)=false:=by rw [Yah];exact hn
  have HNN:=Hd hn;clear hn;go_wp2;go_ret;exact ⟨by rw [HE.o,Yaj HNN.o];rfl,hbw⟩
theorem ZiS (n:Int) (s:List UInt8) (w:World) (hlim:s.length<=9223372036854775807):Calls Tryz.prog 250 #[insV [105,115] n s] w (ZbK (Za1 [105,115] n s) w):=by
 have hE:=ZbE [105,115] n s 4 (by decide) (by decide) (by decide);have HT:Hid (∀ w,Calls Tryz.prog 22 #[.string (S [105,115])] w fun e w'=>e=.returned (.int .i64 2)/\Below w.heap.size w w'):=fun w=>ZaS [105,115] w
 have es:=Zae [105,115];generalize Za1 [105,115] n s=E at hE ⊢;rw [show ZaW 4 s=(Zal s || decide (0<depN s)) from rfl,ZjA] at hE;have HR:Hid (∀ w,Calls Tryz.prog 127 #[.string (S s)] w fun e w'=>e=.returned (.bool (Zaj s))/\w=w'):=fun w=>ZbH s w hlim
 have HC:Hid (∀ w,Calls Tryz.prog 61 #[.string (S s)] w fun e w'=>e=.returned (.bool (ZaB s))/\w=w'):=fun w=>ZcW s w
 generalize Zaj s=r at HR hE;generalize ZaB s=c at HC hE;have HE:=Hd hE;clear hE;go_enter Tryz.func250,Tryz.ntmps250
 go_wp2_with fail
 have hbA:Below w.heap.size w (w.alloc (.cells #[.string (S [105,115]),.int .i64 n,.string (S s)] 48)):=(Yab _ w).alloc (Yac _) _;refine (HT.o _).mono ?_;rintro e w1 ⟨rfl,hb1⟩;have hi1:w1.heap[w.heap.size]? = some (.cells #[.string (S [105,115]),.int .i64 n,.string (S s)] 48 (0,0)):=(Yad (S:=fun _=>False) hb1).heap (heap_alloc_new w _) id;have hbw:Below w.heap.size w w1:=hbA.trans (hb1.mono hbA.size);have hcO:w1.cell? ⟨w.heap.size,0,none⟩=some (.string (S [105,115])):=by simp [World.cell?,hi1]
 have hcN:w1.cell? ⟨w.heap.size,1,none⟩=some (.int .i64 n):=by simp [World.cell?,hi1]
 have hcS:w1.cell? ⟨w.heap.size,2,none⟩=some (.string (S s)):=by simp [World.cell?,hi1]
 clear hbA hb1 hi1;by_cases hn:n=0
 ·subst hn;cases r <;> cases c <;> go_wp2_with (first|(go_at_call 127;refine (HR.o _).mono ?_;rintro e w' ⟨rfl,rfl⟩)|(go_at_call 61;refine (HC.o _).mono ?_;rintro e w' ⟨rfl,rfl⟩))
  all_goals go_ret
  all_goals exact ⟨by rw [HE.o];rfl,hbw⟩
 ·have e2:(n == 0)=false:=by rw [Yah];exact hn
  have HNN:=Hd hn;clear hn;go_wp2;go_ret;exact ⟨by rw [HE.o,Yaj HNN.o];rfl,hbw⟩
theorem ZgG (n:Int) (s:List UInt8) (w:World) (hlim:s.length<=9223372036854775807):Calls Tryz.prog 250 #[insV [99,97,115,116] n s] w (ZbK (Za1 [99,97,115,116] n s) w):=by
 have hE:=ZbE [99,97,115,116] n s 4 (by decide) (by decide) (by decide);have HT:Hid (∀ w,Calls Tryz.prog 22 #[.string (S [99,97,115,116])] w fun e w'=>e=.returned (.int .i64 2)/\Below w.heap.size w w'):=fun w=>ZaS [99,97,115,116] w
 have es:=Zae [99,97,115,116];generalize Za1 [99,97,115,116] n s=E at hE ⊢;rw [show ZaW 4 s=(Zal s || decide (0<depN s)) from rfl,ZjA] at hE;have HR:Hid (∀ w,Calls Tryz.prog 127 #[.string (S s)] w fun e w'=>e=.returned (.bool (Zaj s))/\w=w'):=fun w=>ZbH s w hlim
 have HC:Hid (∀ w,Calls Tryz.prog 61 #[.string (S s)] w fun e w'=>e=.returned (.bool (ZaB s))/\w=w'):=fun w=>ZcW s w
 generalize Zaj s=r at HR hE;generalize ZaB s=c at HC hE;have HE:=Hd hE;clear hE;go_enter Tryz.func250,Tryz.ntmps250
 go_wp2_with fail
 have hbA:Below w.heap.size w (w.alloc (.cells #[.string (S [99,97,115,116]),.int .i64 n,.string (S s)] 48)):=(Yab _ w).alloc (Yac _) _;refine (HT.o _).mono ?_;rintro e w1 ⟨rfl,hb1⟩;have hi1:w1.heap[w.heap.size]? = some (.cells #[.string (S [99,97,115,116]),.int .i64 n,.string (S s)] 48 (0,0)):=(Yad (S:=fun _=>False) hb1).heap (heap_alloc_new w _) id;have hbw:Below w.heap.size w w1:=hbA.trans (hb1.mono hbA.size);have hcO:w1.cell? ⟨w.heap.size,0,none⟩=some (.string (S [99,97,115,116])):=by simp [World.cell?,hi1]
 have hcN:w1.cell? ⟨w.heap.size,1,none⟩=some (.int .i64 n):=by simp [World.cell?,hi1]
 have hcS:w1.cell? ⟨w.heap.size,2,none⟩=some (.string (S s)):=by simp [World.cell?,hi1]
 clear hbA hb1 hi1;by_cases hn:n=0
 ·subst hn;cases r <;> cases c <;> go_wp2_with (first|(go_at_call 127;refine (HR.o _).mono ?_;rintro e w' ⟨rfl,rfl⟩)|(go_at_call 61;refine (HC.o _).mono ?_;rintro e w' ⟨rfl,rfl⟩))
  all_goals go_ret
  all_goals exact ⟨by rw [HE.o];rfl,hbw⟩
 ·have e2:(n == 0)=false:=by rw [Yah];exact hn
  have HNN:=Hd hn;clear hn;go_wp2;go_ret;exact ⟨by rw [HE.o,Yaj HNN.o];rfl,hbw⟩
theorem ZfC (n:Int) (s:List UInt8) (w:World) (hlim:s.length<=9223372036854775807):Calls Tryz.prog 250 #[insV [97,114,114,97,121] n s] w (ZbK (Za1 [97,114,114,97,121] n s) w):=by
 have hE:=ZbE [97,114,114,97,121] n s 5 (by decide) (by decide) (by decide);have HT:Hid (∀ w,Calls Tryz.prog 22 #[.string (S [97,114,114,97,121])] w fun e w'=>e=.returned (.int .i64 2)/\Below w.heap.size w w'):=fun w=>ZaS [97,114,114,97,121] w
 have es:=Zae [97,114,114,97,121];generalize Za1 [97,114,114,97,121] n s=E at hE ⊢;rw [show ZaW 5 s=(Zaj s && decide (ZaO s<=2)) from rfl] at hE;have HR:Hid (∀ w,Calls Tryz.prog 127 #[.string (S s)] w fun e w'=>e=.returned (.bool (Zaj s))/\w=w'):=fun w=>ZbH s w hlim
 have HC:Hid (∀ w,Calls Tryz.prog 194 #[.string (S s)] w fun e w'=>e=.returned (.int .i64 (ZaO s:Nat))/\w=w'):=fun w=>ZdW s w hlim
 generalize Zaj s=r at HR hE;generalize ZaO s=d at HC hE;have HE:=Hd hE;clear hE;go_enter Tryz.func250,Tryz.ntmps250
 go_wp2_with fail
 have hbA:Below w.heap.size w (w.alloc (.cells #[.string (S [97,114,114,97,121]),.int .i64 n,.string (S s)] 48)):=(Yab _ w).alloc (Yac _) _;refine (HT.o _).mono ?_;rintro e w1 ⟨rfl,hb1⟩;have hi1:w1.heap[w.heap.size]? = some (.cells #[.string (S [97,114,114,97,121]),.int .i64 n,.string (S s)] 48 (0,0)):=(Yad (S:=fun _=>False) hb1).heap (heap_alloc_new w _) id;have hbw:Below w.heap.size w w1:=hbA.trans (hb1.mono hbA.size);have hcO:w1.cell? ⟨w.heap.size,0,none⟩=some (.string (S [97,114,114,97,121])):=by simp [World.cell?,hi1]
 have hcN:w1.cell? ⟨w.heap.size,1,none⟩=some (.int .i64 n):=by simp [World.cell?,hi1]
 have hcS:w1.cell? ⟨w.heap.size,2,none⟩=some (.string (S s)):=by simp [World.cell?,hi1]
 clear hbA hb1 hi1;by_cases hn:n=0
 ·subst hn;by_cases hd:d<=2
  ·have hd':(d:Int)<3:=by omega
   rw [Yat hd] at HE;clear hd;cases r <;> go_wp2_with (first|(go_at_call 127;refine (HR.o _).mono ?_;rintro e w' ⟨rfl,rfl⟩)|(go_at_call 194;refine (HC.o _).mono ?_;rintro e w' ⟨rfl,rfl⟩))
   all_goals go_ret
   all_goals exact ⟨by rw [HE.o];rfl,hbw⟩
  ·have hd':decide ((d:Int)<3)=false:=by simp;omega
   rw [Yaj hd] at HE;clear hd;cases r <;> go_wp2_with (first|(go_at_call 127;refine (HR.o _).mono ?_;rintro e w' ⟨rfl,rfl⟩)|(go_at_call 194;refine (HC.o _).mono ?_;rintro e w' ⟨rfl,rfl⟩))
   all_goals go_ret
   all_goals exact ⟨by rw [HE.o];rfl,hbw⟩
 ·have e2:(n == 0)=false:=by rw [Yah];exact hn
  have HNN:=Hd hn;clear hn;go_wp2;go_ret;exact ⟨by rw [HE.o,Yaj HNN.o];rfl,hbw⟩
theorem ZhS (n:Int) (s:List UInt8) (w:World) (hlim:s.length<=9223372036854775807):Calls Tryz.prog 250 #[insV [103,101,116] n s] w (ZbK (Za1 [103,101,116] n s) w):=by
 have hE:=ZbE [103,101,116] n s 6 (by decide) (by decide) (by decide);have HT:Hid (∀ w,Calls Tryz.prog 22 #[.string (S [103,101,116])] w fun e w'=>e=.returned (.int .i64 2)/\Below w.heap.size w w'):=fun w=>ZaS [103,101,116] w
 have es:=Zae [103,101,116];generalize Za1 [103,101,116] n s=E at hE ⊢;rw [show ZaW 6 s=ZaU s from rfl] at hE;have HP:Hid (∀ w,Calls Tryz.prog 259 #[.string (S s)] w fun e w'=>(∃ q,w'=w.drewN q)/\∃ a b,e=.returned (.tuple #[.string a,.string b,.bool (ZaU s)])):=fun w=>(ZdJ s w hlim).mono (by
  rintro e w' ⟨hq,⟨h1,rfl⟩|⟨h1,rfl⟩⟩
  ·exact ⟨hq,_,_,rfl⟩
  ·have:ZaU s=false:=by unfold ZaU;rw [Yaj (by omega)];rfl
   rw [this];exact ⟨hq,_,_,rfl⟩)
 generalize ZaU s=c at HP hE;have HE:=Hd hE;clear hE;go_enter Tryz.func250,Tryz.ntmps250
 go_wp2_with fail
 have hbA:Below w.heap.size w (w.alloc (.cells #[.string (S [103,101,116]),.int .i64 n,.string (S s)] 48)):=(Yab _ w).alloc (Yac _) _;refine (HT.o _).mono ?_;rintro e w1 ⟨rfl,hb1⟩;have hi1:w1.heap[w.heap.size]? = some (.cells #[.string (S [103,101,116]),.int .i64 n,.string (S s)] 48 (0,0)):=(Yad (S:=fun _=>False) hb1).heap (heap_alloc_new w _) id;have hbw:Below w.heap.size w w1:=hbA.trans (hb1.mono hbA.size);have hcO:w1.cell? ⟨w.heap.size,0,none⟩=some (.string (S [103,101,116])):=by simp [World.cell?,hi1]
 have hcN:w1.cell? ⟨w.heap.size,1,none⟩=some (.int .i64 n):=by simp [World.cell?,hi1]
 have hcS:w1.cell? ⟨w.heap.size,2,none⟩=some (.string (S s)):=by simp [World.cell?,hi1]
 clear hbA hb1 hi1;by_cases hn:n=0
 ·subst hn
  go_wp2_with fail
  refine (HP.o _).mono ?_;rintro e w2 ⟨⟨q,hw2⟩,sa,sb,rfl⟩;have hb2:Below w.heap.size w w2:=by rw [hw2];exact hbw.trans (Zaz w1 q |>.mono hbw.size)
  clear hw2;cases c <;> go_wp2
  all_goals go_ret
  all_goals exact ⟨by rw [HE.o];rfl,hb2⟩
 ·have e2:(n == 0)=false:=by rw [Yah];exact hn
  have HNN:=Hd hn;clear hn
  go_wp2_with fail
  refine (HP.o _).mono ?_;rintro e w2 ⟨⟨q,hw2⟩,sa,sb,rfl⟩;have hb2:Below w.heap.size w w2:=by rw [hw2];exact hbw.trans (Zaz w1 q |>.mono hbw.size)
  clear hw2;go_wp2;go_ret;exact ⟨by rw [HE.o,Yaj HNN.o];rfl,hb2⟩
theorem ZhU (n:Int) (s:List UInt8) (w:World) (hlim:s.length<=9223372036854775807):Calls Tryz.prog 250 #[insV [112,117,116] n s] w (ZbK (Za1 [112,117,116] n s) w):=by
 have hE:=ZbE [112,117,116] n s 6 (by decide) (by decide) (by decide);have HT:Hid (∀ w,Calls Tryz.prog 22 #[.string (S [112,117,116])] w fun e w'=>e=.returned (.int .i64 2)/\Below w.heap.size w w'):=fun w=>ZaS [112,117,116] w
 have es:=Zae [112,117,116];generalize Za1 [112,117,116] n s=E at hE ⊢;rw [show ZaW 6 s=ZaU s from rfl] at hE;have HP:Hid (∀ w,Calls Tryz.prog 259 #[.string (S s)] w fun e w'=>(∃ q,w'=w.drewN q)/\∃ a b,e=.returned (.tuple #[.string a,.string b,.bool (ZaU s)])):=fun w=>(ZdJ s w hlim).mono (by
  rintro e w' ⟨hq,⟨h1,rfl⟩|⟨h1,rfl⟩⟩
  ·exact ⟨hq,_,_,rfl⟩
  ·have:ZaU s=false:=by unfold ZaU;rw [Yaj (by omega)];rfl
   rw [this];exact ⟨hq,_,_,rfl⟩)
 generalize ZaU s=c at HP hE;have HE:=Hd hE;clear hE;go_enter Tryz.func250,Tryz.ntmps250
 go_wp2_with fail
 have hbA:Below w.heap.size w (w.alloc (.cells #[.string (S [112,117,116]),.int .i64 n,.string (S s)] 48)):=(Yab _ w).alloc (Yac _) _;refine (HT.o _).mono ?_;rintro e w1 ⟨rfl,hb1⟩;have hi1:w1.heap[w.heap.size]? = some (.cells #[.string (S [112,117,116]),.int .i64 n,.string (S s)] 48 (0,0)):=(Yad (S:=fun _=>False) hb1).heap (heap_alloc_new w _) id;have hbw:Below w.heap.size w w1:=hbA.trans (hb1.mono hbA.size);have hcO:w1.cell? ⟨w.heap.size,0,none⟩=some (.string (S [112,117,116])):=by simp [World.cell?,hi1]
 have hcN:w1.cell? ⟨w.heap.size,1,none⟩=some (.int .i64 n):=by simp [World.cell?,hi1]
 have hcS:w1.cell? ⟨w.heap.size,2,none⟩=some (.string (S s)):=by simp [World.cell?,hi1]
 clear hbA hb1 hi1;by_cases hn:n=0
 ·subst hn
  go_wp2_with fail
  refine (HP.o _).mono ?_;rintro e w2 ⟨⟨q,hw2⟩,sa,sb,rfl⟩;have hb2:Below w.heap.size w w2:=by rw [hw2];exact hbw.trans (Zaz w1 q |>.mono hbw.size)
  clear hw2;cases c <;> go_wp2
  all_goals go_ret
  all_goals exact ⟨by rw [HE.o];rfl,hb2⟩
 ·have e2:(n == 0)=false:=by rw [Yah];exact hn
  have HNN:=Hd hn;clear hn
  go_wp2_with fail
  refine (HP.o _).mono ?_;rintro e w2 ⟨⟨q,hw2⟩,sa,sb,rfl⟩;have hb2:Below w.heap.size w w2:=by rw [hw2];exact hbw.trans (Zaz w1 q |>.mono hbw.size)
  clear hw2;go_wp2;go_ret;exact ⟨by rw [HE.o,Yaj HNN.o];rfl,hb2⟩
theorem ZgF (n:Int) (s:List UInt8) (w:World) (hlim:s.length<=9223372036854775807):Calls Tryz.prog 250 #[insV [99,97,108,108] n s] w (ZbK (Za1 [99,97,108,108] n s) w):=by
 have hE:=ZbE [99,97,108,108] n s 6 (by decide) (by decide) (by decide);have HT:Hid (∀ w,Calls Tryz.prog 22 #[.string (S [99,97,108,108])] w fun e w'=>e=.returned (.int .i64 2)/\Below w.heap.size w w'):=fun w=>ZaS [99,97,108,108] w
 have es:=Zae [99,97,108,108];generalize Za1 [99,97,108,108] n s=E at hE ⊢;rw [show ZaW 6 s=ZaU s from rfl] at hE;have HP:Hid (∀ w,Calls Tryz.prog 259 #[.string (S s)] w fun e w'=>(∃ q,w'=w.drewN q)/\∃ a b,e=.returned (.tuple #[.string a,.string b,.bool (ZaU s)])):=fun w=>(ZdJ s w hlim).mono (by
  rintro e w' ⟨hq,⟨h1,rfl⟩|⟨h1,rfl⟩⟩
  ·exact ⟨hq,_,_,rfl⟩
  ·have:ZaU s=false:=by unfold ZaU;rw [Yaj (by omega)];rfl
   rw [this];exact ⟨hq,_,_,rfl⟩)
 generalize ZaU s=c at HP hE;have HE:=Hd hE;clear hE;go_enter Tryz.func250,Tryz.ntmps250
 go_wp2_with fail
 have hbA:Below w.heap.size w (w.alloc (.cells #[.string (S [99,97,108,108]),.int .i64 n,.string (S s)] 48)):=(Yab _ w).alloc (Yac _) _;refine (HT.o _).mono ?_;rintro e w1 ⟨rfl,hb1⟩;have hi1:w1.heap[w.heap.size]? = some (.cells #[.string (S [99,97,108,108]),.int .i64 n,.string (S s)] 48 (0,0)):=(Yad (S:=fun _=>False) hb1).heap (heap_alloc_new w _) id;have hbw:Below w.heap.size w w1:=hbA.trans (hb1.mono hbA.size);have hcO:w1.cell? ⟨w.heap.size,0,none⟩=some (.string (S [99,97,108,108])):=by simp [World.cell?,hi1]
 have hcN:w1.cell? ⟨w.heap.size,1,none⟩=some (.int .i64 n):=by simp [World.cell?,hi1]
 have hcS:w1.cell? ⟨w.heap.size,2,none⟩=some (.string (S s)):=by simp [World.cell?,hi1]
 clear hbA hb1 hi1;by_cases hn:n=0
 ·subst hn
  go_wp2_with fail
  refine (HP.o _).mono ?_;rintro e w2 ⟨⟨q,hw2⟩,sa,sb,rfl⟩;have hb2:Below w.heap.size w w2:=by rw [hw2];exact hbw.trans (Zaz w1 q |>.mono hbw.size)
  clear hw2;cases c <;> go_wp2
  all_goals go_ret
  all_goals exact ⟨by rw [HE.o];rfl,hb2⟩
 ·have e2:(n == 0)=false:=by rw [Yah];exact hn
  have HNN:=Hd hn;clear hn
  go_wp2_with fail
  refine (HP.o _).mono ?_;rintro e w2 ⟨⟨q,hw2⟩,sa,sb,rfl⟩;have hb2:Below w.heap.size w w2:=by rw [hw2];exact hbw.trans (Zaz w1 q |>.mono hbw.size)
  clear hw2;go_wp2;go_ret;exact ⟨by rw [HE.o,Yaj HNN.o];rfl,hb2⟩
theorem ZgH (n:Int) (s:List UInt8) (w:World) (hlim:s.length<=9223372036854775807):Calls Tryz.prog 250 #[insV [119,111,114,100] n s] w (ZbK (Za1 [119,111,114,100] n s) w):=by
 have hE:=ZbE [119,111,114,100] n s 2 (by decide) (by decide) (by decide);have HT:Hid (∀ w,Calls Tryz.prog 22 #[.string (S [119,111,114,100])] w fun e w'=>e=.returned (.int .i64 2)/\Below w.heap.size w w'):=fun w=>ZaS [119,111,114,100] w
 have es:=Zae [119,111,114,100];generalize Za1 [119,111,114,100] n s=E at hE ⊢;rw [show ZaW 2 s=(decide (s.length<=64) && Lib.validD s && !s.contains 10) from rfl] at hE;have HV:Hid (∀ w,s.length<=64->Calls Tryz.prog 258 #[.string (S s)] w fun e w'=>e=.returned (.bool (Lib.validD s))/\∃ q,w'=w.drewN q):=fun w h=>ZnW s w (by omega)
 have hsz:((S s).size:Int)=(s.length:Int):=by rw [Zay]
 obtain ⟨m,hm⟩:∃ m,m=s.length:=⟨_,rfl⟩
 rw [←hm] at hE hsz;have hm1:m<=9223372036854775807:=by omega
 have HM:=Hd hm;clear hm hlim;obtain ⟨V,hV⟩:∃ V,V=Lib.validD s:=⟨_,rfl⟩
 rw [←hV] at HV hE;clear hV;have HE:=Hd hE;clear hE;go_enter Tryz.func250,Tryz.ntmps250
 go_wp2_with fail
 have hbA:Below w.heap.size w (w.alloc (.cells #[.string (S [119,111,114,100]),.int .i64 n,.string (S s)] 48)):=(Yab _ w).alloc (Yac _) _;refine (HT.o _).mono ?_;rintro e w1 ⟨rfl,hb1⟩;have hi1:w1.heap[w.heap.size]? = some (.cells #[.string (S [119,111,114,100]),.int .i64 n,.string (S s)] 48 (0,0)):=(Yad (S:=fun _=>False) hb1).heap (heap_alloc_new w _) id;have hbw:Below w.heap.size w w1:=hbA.trans (hb1.mono hbA.size);have hcO:w1.cell? ⟨w.heap.size,0,none⟩=some (.string (S [119,111,114,100])):=by simp [World.cell?,hi1]
 have hcN:w1.cell? ⟨w.heap.size,1,none⟩=some (.int .i64 n):=by simp [World.cell?,hi1]
 have hcS:w1.cell? ⟨w.heap.size,2,none⟩=some (.string (S s)):=by simp [World.cell?,hi1]
 clear hbA hb1 hi1;by_cases hn:n=0
 ·subst hn;by_cases h64:m<=64
  ·have h64':(m:Int)<=64:=by omega
   rw [Yat h64] at HE
   go_wp2_with fail
   refine (HV.o _ (by have:=HM.o;omega)).mono ?_;rintro e w2 ⟨rfl,q,hw2⟩;have hbW:Below w.heap.size w w2:=by rw [hw2];exact hbw.trans (Zaz w1 q |>.mono hbw.size)
   have hcS2:w2.cell? ⟨w.heap.size,2,none⟩=some (.string (S s)):=by rw [hw2];exact hcS
   clear hw2 hbw hcO hcN hcS h64 h64';cases V
   ·go_wp2;generalize hW:w2=W at hbW hcS2 ⊢;clear hW
    go_loopw [4,5] (fun v4 v5 wr=>wr=W/\v4=.bool false/\∃ k:Nat,k<=m/\v5=.int .i64 k) (fun _ v5 _=>m - (intOf v5).toNat)
    case atStart=>exact ⟨rfl,rfl,0,Yai _,rfl⟩
    case round=>
     obtain ⟨rfl,rfl,k,hk,rfl⟩:=hrel;by_cases hlt:k<m
     ·go_wp2
      go_roundw
      case rel=>exact ⟨trivial,by first|trivial|rfl,k+1,by omega,by go_num⟩
      case measure=>simp [intOf];omega
     ·obtain rfl:k=m:=by omega
      go_wp2;go_ret;exact ⟨by rw [HE.o];rfl,hbW⟩
   ·go_wp2;generalize hW:w2=W at hbW hcS2 ⊢;clear hW
    go_loopw [4,5] (fun v4 v5 wr=>wr=W/\∃ k:Nat,k<=m/\v5=.int .i64 k/\v4=.bool (!(s.take k).contains 10)) (fun _ v5 _=>m - (intOf v5).toNat)
    case atStart=>exact ⟨rfl,0,Yai _,rfl,rfl⟩
    case round=>
     obtain ⟨rfl,k,hk,rfl,rfl⟩:=hrel;by_cases hlt:k<m
     ·have hkl:k<s.length:=by have:=HM.o;omega
      have hcs:=Zgi s k hkl;obtain ⟨x,hx⟩:∃ x,x=s.getD k 0:=⟨_,rfl⟩
      obtain ⟨c,hc⟩:∃ c,c=x.toNat:=⟨_,rfl⟩
      have hget:∀ h:k<(S s).size,((S s)[k]'h).toNat=c:=fun h=>by rw [hc,hx,S_at s k hkl h]
      rw [←hx] at hcs;have hxc:(x == 10)=decide (c=10):=by
       rw [hc,Ybk,beq_iff_eq,YaO];exact ⟨fun h=>by rw [h];rfl,fun h=>UInt8.toNat_inj.1 h⟩
      rw [hxc] at hcs;have HCS:=Hd hcs;clear hcs hx hc hxc;generalize (s.take k).contains 10=old at HCS ⊢;cases old
      ·by_cases h10:c=10
       ·subst h10;go_wp2
        go_roundw
        case rel=>exact ⟨trivial,k+1,by omega,by go_num,by rw [HCS.o];rfl⟩
        case measure=>simp [intOf];omega
       ·have e10:((c:Int) != 10)=true:=by rw [bne_iff_ne];omega
        have H10:=Hd h10;clear h10;go_wp2
        go_roundw
        case rel=>exact ⟨trivial,k+1,by omega,by go_num,by rw [HCS.o,Yaj H10.o];rfl⟩
        case measure=>simp [intOf];omega
      ·go_wp2
       go_roundw
       case rel=>exact ⟨trivial,k+1,by omega,by go_num,by rw [HCS.o];rfl⟩
       case measure=>simp [intOf];omega
     ·obtain rfl:k=m:=by omega
      have hful:s.take k=s:=Yaw (by have:=HM.o;omega);rw [hful];generalize s.contains 10=f at HE ⊢;clear hful;cases f
      ·go_wp2;go_ret;exact ⟨by rw [HE.o];rfl,hbW⟩
      ·go_wp2;go_ret;exact ⟨by rw [HE.o];rfl,hbW⟩
  ·have h64':decide ((m:Int)<=64)=false:=by simp;omega
   rw [Yaj h64] at HE;clear h64;go_wp2;generalize hW:w1=W at hbw hcS ⊢;clear hW hcO hcN;have hbW:=hbw
   go_loopw [4,5] (fun v4 v5 wr=>wr=W/\v4=.bool false/\∃ k:Nat,k<=m/\v5=.int .i64 k) (fun _ v5 _=>m - (intOf v5).toNat)
   case atStart=>exact ⟨rfl,rfl,0,Yai _,rfl⟩
   case round=>
    obtain ⟨rfl,rfl,k,hk,rfl⟩:=hrel;by_cases hlt:k<m
    ·go_wp2
     go_roundw
     case rel=>exact ⟨trivial,by first|trivial|rfl,k+1,by omega,by go_num⟩
     case measure=>simp [intOf];omega
    ·obtain rfl:k=m:=by omega
     go_wp2;go_ret;exact ⟨by rw [HE.o];rfl,hbW⟩
 ·have e2:(n == 0)=false:=by rw [Yah];exact hn
  have HNN:=Hd hn;clear hn;go_wp2;generalize hW:w1=W at hbw hcS ⊢;clear hW hcO hcN;have hbW:=hbw
  go_loopw [4,5] (fun v4 v5 wr=>wr=W/\v4=.bool false/\∃ k:Nat,k<=m/\v5=.int .i64 k) (fun _ v5 _=>m - (intOf v5).toNat)
  case atStart=>exact ⟨rfl,rfl,0,Yai _,rfl⟩
  case round=>
   obtain ⟨rfl,rfl,k,hk,rfl⟩:=hrel;by_cases hlt:k<m
   ·go_wp2
    go_roundw
    case rel=>exact ⟨trivial,by first|trivial|rfl,k+1,by omega,by go_num⟩
    case measure=>simp [intOf];omega
   ·obtain rfl:k=m:=by omega
    go_wp2;go_ret;exact ⟨by rw [HE.o,Yaj HNN.o];rfl,hbW⟩
theorem Zpa:∀ k:Fin 42,2<=Zbm k.val->ZaK k.val=[119,111,114,100]\/ZaK k.val=[110,101,119]\/ZaK k.val=[103,101,116]\/ZaK k.val=[112,117,116]\/ZaK k.val=[99,97,108,108]\/ZaK k.val=[97,114,114,97,121]\/ZaK k.val=[105,115]\/ZaK k.val=[99,97,115,116]:=by decide
theorem ZfD (op:List UInt8) (n:Int) (s:List UInt8) (w:World) (E:Nat) (t:Int) (ht:t=0\/t=1) (hT:∀ w,Calls Tryz.prog 22 #[.string (S op)] w fun e w'=>e=.returned (.int .i64 t)/\Below w.heap.size w w')
  (hE:E=if ((decide (t=1) || decide (n=0)) && s.isEmpty)=true then 0 else 41):Calls Tryz.prog 250 #[insV op n s] w (ZbK E w):=by
 have HT:=Hd hT;have HE:=Hd hE;clear hT hE;obtain ⟨nz,hnz⟩:∃ nz,nz=(n == 0):=⟨_,rfl⟩
 have hdz:decide (n=0)=nz:=by rw [hnz,Ybk,YaO,beq_iff_eq]
 rw [hdz] at HE;clear hdz;obtain ⟨sz,hsz⟩:∃ sz,sz=s.isEmpty:=⟨_,rfl⟩
 rw [←hsz] at HE;have es:=Zae s;have es2:([] == s)=sz:=by rw [hsz];cases s <;> rfl
 have es3:(s == [])=sz:=by rw [hsz];cases s <;> rfl
 have hsz2:=hsz.symm;have hnz2:=hnz.symm;clear hsz hnz;rcases ht with rfl|rfl
 all_goals go_enter Tryz.func250,Tryz.ntmps250
 all_goals go_wp2_with fail
 all_goals
  have hbA:Below w.heap.size w (w.alloc (.cells #[.string (S op),.int .i64 n,.string (S s)] 48)):=(Yab _ w).alloc (Yac _) _;refine (HT.o _).mono ?_;rintro e w1 ⟨rfl,hb1⟩;have hi1:w1.heap[w.heap.size]? = some (.cells #[.string (S op),.int .i64 n,.string (S s)] 48 (0,0)):=(Yad (S:=fun _=>False) hb1).heap (heap_alloc_new w _) id;have hbw:Below w.heap.size w w1:=hbA.trans (hb1.mono hbA.size);have hcO:w1.cell? ⟨w.heap.size,0,none⟩=some (.string (S op)):=by simp [World.cell?,hi1]
  have hcN:w1.cell? ⟨w.heap.size,1,none⟩=some (.int .i64 n):=by simp [World.cell?,hi1]
  have hcS:w1.cell? ⟨w.heap.size,2,none⟩=some (.string (S s)):=by simp [World.cell?,hi1]
  clear hbA hb1 hi1;cases nz <;> cases sz <;> go_wp2
 all_goals go_ret
 all_goals exact ⟨by rw [HE.o];rfl,hbw⟩
theorem ZhR (op:List UInt8) (n:Int) (s:List UInt8) (w:World) (hlim:s.length<=9223372036854775807):Calls Tryz.prog 250 #[insV op n s] w (ZbK (Za1 op n s) w):=by
 by_cases hN:idx op<42
 ·by_cases h2:2<=Zbm (idx op)
  ·have hop:=beq_iff_eq.1 (Zho op hN);have h8:=Zpa ⟨idx op,hN⟩ h2;rw [show ZaK (⟨idx op,hN⟩:Fin 42).val=op from hop] at h8;rcases h8 with h|h|h|h|h|h|h|h <;> rw [h]
   ·exact ZgH n s w hlim
   ·exact ZhT n s w hlim
   ·exact ZhS n s w hlim
   ·exact ZhU n s w hlim
   ·exact ZgF n s w hlim
   ·exact ZfC n s w hlim
   ·exact ZiS n s w hlim
   ·exact ZgG n s w hlim
  ·have hE:Za1 op n s=(if Zbm (idx op) ≠ 1/\n ≠ 0 then 41 else if ZaW (Zbm (idx op)) s then 0 else 41):=YaC hN;have hR:refT op=if Zbm (idx op)=1 then 1 else 0:=by
    unfold refT;rw [YaC hN,Yas h2]
   have hal:ZaW (Zbm (idx op)) s=s.isEmpty:=by
    unfold ZaW;rw [Yas (by omega),Yas (by omega),Yas (by omega),Yas (by omega),Yas (by omega)];cases s <;> rfl
   rw [hal] at hE;refine ZfD op n s w _ (refT op) (by rw [hR];split <;> simp) (fun w=>ZaS op w) ?_;rw [hE,hR];by_cases h1:Zbm (idx op)=1
   ·rw [Yas (fun q=>q.1 h1),YaC h1];rfl
   ·rw [Yas h1];by_cases hn:n=0
    ·rw [Yas (fun q=>q.2 hn),Yat hn];rfl
    ·rw [YaC ⟨h1,hn⟩,Yaj hn];rfl
 ·have HE:Hid (Za1 op n s=40):=Hd (Yas hN);have HT:=Hd (fun w=>(show Calls Tryz.prog 22 #[.string (S op)] w fun e w'=>e=.returned (.int .i64 (-1))/\Below w.heap.size w w' from by
   have h:=ZaS op w;rw [show refT op=-1 from Yas hN] at h;exact h))
  clear hN;generalize Za1 op n s=E at HE ⊢;go_enter Tryz.func250,Tryz.ntmps250
  go_wp2_with fail
  have hbA:Below w.heap.size w (w.alloc (.cells #[.string (S op),.int .i64 n,.string (S s)] 48)):=(Yab _ w).alloc (Yac _) _;refine (HT.o _).mono ?_;rintro e w1 ⟨rfl,hb1⟩;have hbw:Below w.heap.size w w1:=hbA.trans (hb1.mono hbA.size);clear hb1 hbA;go_wp2;go_ret;exact ⟨by rw [HE.o];rfl,hbw⟩
theorem Zlb (l:List Ins) (sv:Value) (w:World) (hs:Zpj w sv l) (hlim:∀ x ∈ l,x.s.length<=9223372036854775807) (hlen:l.length<=9223372036854775807) :
  Calls Tryz.prog 230 #[sv] w fun e w'=>e=.returned (.int .i64 (allE l:Nat))/\Below w.heap.size w w':=by
 have HL:=Hd hlim;clear hlim;rcases hs with ⟨ao,cp0,rfl,rfl⟩|⟨b,o,cap,rfl,hc⟩
 ·go_enter Tryz.func230,Tryz.ntmps230;go_wp2
  go_loopw [3] (fun v3 wr=>v3=.int .i64 0/\wr=w) (fun _ _=>0)
  case atStart=>exact ⟨rfl,rfl⟩
  case round=>
   obtain ⟨rfl,rfl⟩:=hrel;go_wp2;go_ret;exact ⟨rfl,Yab _ _⟩
 ·have HC:=Hd hc;obtain ⟨n,hn⟩:∃ n,n=l.length:=⟨_,rfl⟩
  rw [←hn] at hlen ⊢;have HN:=Hd hn;clear hc hn;go_enter Tryz.func230,Tryz.ntmps230;go_wp2
  go_loopw [3] (fun v3 wr=>∃ k:Nat,k<=n/\v3=.int .i64 k/\Below w.heap.size w wr/\allE l=allE (l.drop k)) (fun v3 _=>n - (intOf v3).toNat)
  case atStart=>exact ⟨0,Yai _,rfl,Yab _ _,rfl⟩
  case round=>
   obtain ⟨k,hk,rfl,hb,hall⟩:=hrel;have HA:=Hd hall;have HB:=Hd hb;clear hall hb;by_cases hlt:k<n
   ·have hkl:k<l.length:=by have:=HN.o;omega
    obtain ⟨x,hx⟩:∃ x,l[k]? = some x:=⟨_,Yaa hkl⟩
    obtain ⟨c0,c1,c2⟩:=HC.o k x hx;have ho:=Yad (S:=fun _=>False) HB.o;have d0:=ho.cell c0 id;have d1:=ho.cell c1 id;have d2:=ho.cell c2 id;have hdr:=ZlC l k x hx;have HXL:=Hd (HL.o x (Yaf hx));obtain ⟨E,hE⟩:∃ E,E=x.e:=⟨_,rfl⟩
    rw [←hE] at hdr;have HCK:Hid (Calls Tryz.prog 250 #[.agg #[.string (S x.op),.int .i64 x.n,.string (S x.s)]] wr (ZbK E wr)):=Hd (by rw [hE];exact ZhR x.op x.n x.s wr HXL.o);have HDR:=Hd hdr;clear c0 c1 c2 hx hkl ho hdr hE;have hk0:(0:Int)<=k:=by omega
    have hkn:(k:Int)<(n:Int):=by omega
    go_wp2_with fail
    refine HCK.o.mono ?_;rintro e w1 ⟨rfl,hb1⟩;have hbw:Below w.heap.size w w1:=HB.o.trans (hb1.mono HB.o.size);have HBW:=Hd hbw;clear hb1 hbw d0 d1 d2 HCK;by_cases hz:E=0
    ·subst hz;go_wp2
     go_roundw
     case rel=>exact ⟨k+1,by omega,by go_num,HBW.o,by rw [HA.o];exact HDR.o⟩
     case measure=>simp [intOf];omega
    ·have hzb:((E:Int) != 0)=true:=by rw [bne_iff_ne];omega
     have HZ:=Hd hz;clear hz;go_wp2;go_ret;refine ⟨?_,HBW.o⟩;rw [HA.o,HDR.o,Yas HZ.o];rfl
   ·obtain rfl:k=n:=by omega
    have hz:allE l=0:=by rw [HA.o,List.drop_of_length_le (by rw [HN.o];exact Yac _)];rfl
    have HZ:=Hd hz;clear hz;go_wp2;go_ret;exact ⟨by rw [HZ.o];rfl,HB.o⟩
