/- laws -/
import Derived.Test.YtegljjbclladdaaGreatDoorK25
set_option maxRecDepth 100000
set_option maxHeartbeats 16000000
namespace Go.Proofs.YtegljjbclladdaaGreatDoor
open Go.RowKit Tryz
theorem Zly {l:List UInt8}(b:Zby l=true):Zah l=false:=by
 rw[Yb3];intro a;have:=Zdt (Zbs a);rw[b]at this;cases this
theorem ZmR {l:List UInt8}(b:Zby l=true):Zay l=false:=by
 rw[Yb3];intro a;have:=Zdt (Zer a);rw[b]at this;cases this
theorem Zla (s:List UInt8):(Zah s || decide (0<depN s))=(Zag s&&!Zay s):=by
 cases b:Zby s with
 |false=>
  have a:=ZcR b;have d:Zbp s=s:=by unfold Zbp;rw[a];simp
  have c:Zag s=(Zay s || Zah s):=by unfold Zag;rw[a,d];rfl
  have g:depN s=0:=by unfold depN;rw[a];simp
  rw[g,c];cases f:Zay s with
  |true=>rw[Zi4 f];rfl
  |false=>simp
 |true=>
  have a:=ZcF b;rw[Zly b,ZmR b];cases c:Zag s with
  |true=>rw[ZbP c,a];simp
  |false=>rw[ZdE c];rfl
theorem ZbO (b:List UInt8)(n:Int)(s:List UInt8)(g:Nat)(d:idx b<42)(f:Zbz (idx b)=g)(c:g≠1):Za9 b n s=if(decide (n=0)&&Za3 g s)=true then 0 else 41:=by
 unfold Za9;rw[Yay d,f];by_cases a:n=0
 ·rw[Yar (fun h=>h.2 a),Yas a,YaG]
 ·rw[Yay ⟨c,a⟩,Yan a,YaQ];rfl
def ZbT (a:Nat)(w:World)(e:Ending)(w':World):Prop:=e=.returned (.int .i64 (a:Nat))/\Below w.heap.size w w'
theorem Zhn (s:List UInt8)(k:Nat)(a:k<s.length):(s.take (k+1)).contains 10=((s.take k).contains 10 || (s.getD k 0==10)):=by
 rw[List.take_succ_eq_append_getElem a,List.getD,Yaa a,Option.getD_some];rw[Ybk,YaZ,YbS,YbS,Yaq,Yax,beq_iff_eq];exact or_congr Iff.rfl eq_comm

theorem Zja (n:Int)(s:List UInt8)(w:World)(j:s.length<=9223372036854775807):Calls prog 233 #[insV [110,101,119] n s] w (ZbT (Za9 [110,101,119] n s) w):=by
 have f:=ZbO [110,101,119] n s 3 (by decide) (by decide) (by decide);have p:Hid (∀w,Calls prog 8 #[.string (S [110,101,119])] w fun e w'=>e=.returned (.int .i64 2)/\Below w.heap.size w w'):=fun w=>ZaM [110,101,119] w;have es:=Zaf [110,101,119];generalize Za9 [110,101,119] n s=v at f⊢;rw[show Za3 3 s=Zah s from rfl]at f;have l:Hid (∀w,Calls prog 159 #[.string (S s)] w fun e w'=>e=.returned (.bool (Zah s))/\w=w'):=fun w=>Zct s w j;generalize Zah s=c at l f;have m:=Hd f;clear f;go_enter func233,ntmps233
 go_wp2_with fail;have b:Below w.heap.size w (w.alloc (.cells #[.string (S [110,101,119]),.int .i64 n,.string (S s)] 28)):=(Yab _ w).alloc (Yad _) _;refine(p.o _).mono ?_;rintro e d⟨rfl,g⟩;have a:d.heap[w.heap.size]?=some (.cells #[.string (S [110,101,119]),.int .i64 n,.string (S s)] 28 (0,0)):=(Yae (S:=fun _=>False) g).heap (heap_alloc_new w _) id;have i:Below w.heap.size w d:=b.trans (g.mono b.size);have q:d.cell? ⟨w.heap.size,0,none⟩=some (.string (S [110,101,119])):=by simp[World.cell?,a]
 have t:d.cell? ⟨w.heap.size,1,none⟩=some (.int .i64 n):=by simp[World.cell?,a]
 have r:d.cell? ⟨w.heap.size,2,none⟩=some (.string (S s)):=by simp[World.cell?,a]
 clear b g a;by_cases h:n=0
 ·subst h;cases c<;>go_wp2_with (go_at_call 159;refine(l.o _).mono ?_;rintro e w'⟨rfl,rfl⟩)
  all_goals go_ret
  all_goals exact⟨by rw[m.o];rfl,i⟩
 ·have u:(n==0)=false:=by rw[Yah];exact h
  have k:=Hd h;clear h;go_wp2;go_ret;exact⟨by rw[m.o,Yan k.o];rfl,i⟩
theorem Zkh (n:Int)(s:List UInt8)(w:World)(j:s.length<=9223372036854775807):Calls prog 233 #[insV [105,115] n s] w (ZbT (Za9 [105,115] n s) w):=by
 have b:=ZbO [105,115] n s 4 (by decide) (by decide) (by decide);have q:Hid (∀w,Calls prog 8 #[.string (S [105,115])] w fun e w'=>e=.returned (.int .i64 2)/\Below w.heap.size w w'):=fun w=>ZaM [105,115] w;have es:=Zaf [105,115];generalize Za9 [105,115] n s=y at b⊢;rw[show Za3 4 s=(Zah s || decide (0<depN s))from rfl,Zla]at b;have l:Hid (∀w,Calls prog 161 #[.string (S s)] w fun e w'=>e=.returned (.bool (Zag s))/\w=w'):=fun w=>ZbR s w j;have p:Hid (∀w,Calls prog 210 #[.string (S s)] w fun e w'=>e=.returned (.bool (Zay s))/\w=w'):=fun w=>Zdc s w;generalize Zag s=x at l b;generalize Zay s=c at p b;have k:=Hd b;clear b;go_enter func233,ntmps233
 go_wp2_with fail;have g:Below w.heap.size w (w.alloc (.cells #[.string (S [105,115]),.int .i64 n,.string (S s)] 28)):=(Yab _ w).alloc (Yad _) _;refine(q.o _).mono ?_;rintro e d⟨rfl,f⟩;have a:d.heap[w.heap.size]?=some (.cells #[.string (S [105,115]),.int .i64 n,.string (S s)] 28 (0,0)):=(Yae (S:=fun _=>False) f).heap (heap_alloc_new w _) id;have i:Below w.heap.size w d:=g.trans (f.mono g.size);have u:d.cell? ⟨w.heap.size,0,none⟩=some (.string (S [105,115])):=by simp[World.cell?,a]
 have r:d.cell? ⟨w.heap.size,1,none⟩=some (.int .i64 n):=by simp[World.cell?,a]
 have t:d.cell? ⟨w.heap.size,2,none⟩=some (.string (S s)):=by simp[World.cell?,a]
 clear g f a;by_cases h:n=0
 ·subst h;cases x<;>cases c<;>go_wp2_with (first|(go_at_call 161;refine(l.o _).mono ?_;rintro e w'⟨rfl,rfl⟩)|(go_at_call 210;refine(p.o _).mono ?_;rintro e w'⟨rfl,rfl⟩))
  all_goals go_ret
  all_goals exact⟨by rw[k.o];rfl,i⟩
 ·have v:(n==0)=false:=by rw[Yah];exact h
  have m:=Hd h;clear h;go_wp2;go_ret;exact⟨by rw[k.o,Yan m.o];rfl,i⟩
theorem ZhR (n:Int)(s:List UInt8)(w:World)(j:s.length<=9223372036854775807):Calls prog 233 #[insV [99,97,115,116] n s] w (ZbT (Za9 [99,97,115,116] n s) w):=by
 have b:=ZbO [99,97,115,116] n s 4 (by decide) (by decide) (by decide);have q:Hid (∀w,Calls prog 8 #[.string (S [99,97,115,116])] w fun e w'=>e=.returned (.int .i64 2)/\Below w.heap.size w w'):=fun w=>ZaM [99,97,115,116] w;have es:=Zaf [99,97,115,116];generalize Za9 [99,97,115,116] n s=y at b⊢;rw[show Za3 4 s=(Zah s || decide (0<depN s))from rfl,Zla]at b;have l:Hid (∀w,Calls prog 161 #[.string (S s)] w fun e w'=>e=.returned (.bool (Zag s))/\w=w'):=fun w=>ZbR s w j;have p:Hid (∀w,Calls prog 210 #[.string (S s)] w fun e w'=>e=.returned (.bool (Zay s))/\w=w'):=fun w=>Zdc s w;generalize Zag s=x at l b;generalize Zay s=c at p b;have k:=Hd b;clear b;go_enter func233,ntmps233
 go_wp2_with fail;have g:Below w.heap.size w (w.alloc (.cells #[.string (S [99,97,115,116]),.int .i64 n,.string (S s)] 28)):=(Yab _ w).alloc (Yad _) _;refine(q.o _).mono ?_;rintro e d⟨rfl,f⟩;have a:d.heap[w.heap.size]?=some (.cells #[.string (S [99,97,115,116]),.int .i64 n,.string (S s)] 28 (0,0)):=(Yae (S:=fun _=>False) f).heap (heap_alloc_new w _) id;have i:Below w.heap.size w d:=g.trans (f.mono g.size);have u:d.cell? ⟨w.heap.size,0,none⟩=some (.string (S [99,97,115,116])):=by simp[World.cell?,a]
 have r:d.cell? ⟨w.heap.size,1,none⟩=some (.int .i64 n):=by simp[World.cell?,a]
 have t:d.cell? ⟨w.heap.size,2,none⟩=some (.string (S s)):=by simp[World.cell?,a]
 clear g f a;by_cases h:n=0
 ·subst h;cases x<;>cases c<;>go_wp2_with (first|(go_at_call 161;refine(l.o _).mono ?_;rintro e w'⟨rfl,rfl⟩)|(go_at_call 210;refine(p.o _).mono ?_;rintro e w'⟨rfl,rfl⟩))
  all_goals go_ret
  all_goals exact⟨by rw[k.o];rfl,i⟩
 ·have v:(n==0)=false:=by rw[Yah];exact h
  have m:=Hd h;clear h;go_wp2;go_ret;exact⟨by rw[k.o,Yan m.o];rfl,i⟩
theorem ZgC (n:Int)(s:List UInt8)(w:World)(c:s.length<=9223372036854775807):Calls prog 233 #[insV [97,114,114,97,121] n s] w (ZbT (Za9 [97,114,114,97,121] n s) w):=by
 have b:=ZbO [97,114,114,97,121] n s 5 (by decide) (by decide) (by decide);have t:Hid (∀w,Calls prog 8 #[.string (S [97,114,114,97,121])] w fun e w'=>e=.returned (.int .i64 2)/\Below w.heap.size w w'):=fun w=>ZaM [97,114,114,97,121] w;have es:=Zaf [97,114,114,97,121];generalize Za9 [97,114,114,97,121] n s=A at b⊢;rw[show Za3 5 s=(Zag s&&decide (ZaL s<=2))from rfl]at b;have m:Hid (∀w,Calls prog 161 #[.string (S s)] w fun e w'=>e=.returned (.bool (Zag s))/\w=w'):=fun w=>ZbR s w c;have p:Hid (∀w,Calls prog 209 #[.string (S s)] w fun e w'=>e=.returned (.int .i64 (ZaL s:Nat))/\w=w'):=fun w=>Zes s w c;generalize Zag s=x at m b;generalize ZaL s=d at p b;have f:=Hd b;clear b;go_enter func233,ntmps233
 go_wp2_with fail;have i:Below w.heap.size w (w.alloc (.cells #[.string (S [97,114,114,97,121]),.int .i64 n,.string (S s)] 28)):=(Yab _ w).alloc (Yad _) _;refine(t.o _).mono ?_;rintro e g⟨rfl,h⟩;have a:g.heap[w.heap.size]?=some (.cells #[.string (S [97,114,114,97,121]),.int .i64 n,.string (S s)] 28 (0,0)):=(Yae (S:=fun _=>False) h).heap (heap_alloc_new w _) id;have j:Below w.heap.size w g:=i.trans (h.mono i.size);have y:g.cell? ⟨w.heap.size,0,none⟩=some (.string (S [97,114,114,97,121])):=by simp[World.cell?,a]
 have u:g.cell? ⟨w.heap.size,1,none⟩=some (.int .i64 n):=by simp[World.cell?,a]
 have v:g.cell? ⟨w.heap.size,2,none⟩=some (.string (S s)):=by simp[World.cell?,a]
 clear i h a;by_cases l:n=0
 ·subst l;by_cases k:d<=2
  ·have q:(d:Int)<3:=by omega
   rw[Yas k]at f;clear k;cases x<;>go_wp2_with (first|(go_at_call 161;refine(m.o _).mono ?_;rintro e w'⟨rfl,rfl⟩)|(go_at_call 209;refine(p.o _).mono ?_;rintro e w'⟨rfl,rfl⟩))
   all_goals go_ret
   all_goals exact⟨by rw[f.o];rfl,j⟩
  ·have q:decide ((d:Int)<3)=false:=by simp;omega
   rw[Yan k]at f;clear k;cases x<;>go_wp2_with (first|(go_at_call 161;refine(m.o _).mono ?_;rintro e w'⟨rfl,rfl⟩)|(go_at_call 209;refine(p.o _).mono ?_;rintro e w'⟨rfl,rfl⟩))
   all_goals go_ret
   all_goals exact⟨by rw[f.o];rfl,j⟩
 ·have z:(n==0)=false:=by rw[Yah];exact l
  have r:=Hd l;clear l;go_wp2;go_ret;exact⟨by rw[f.o,Yan r.o];rfl,j⟩
theorem Zi9 (n:Int)(s:List UInt8)(w:World)(p:s.length<=9223372036854775807):Calls prog 233 #[insV [103,101,116] n s] w (ZbT (Za9 [103,101,116] n s) w):=by
 have i:=ZbO [103,101,116] n s 6 (by decide) (by decide) (by decide);have z:Hid (∀w,Calls prog 8 #[.string (S [103,101,116])] w fun e w'=>e=.returned (.int .i64 2)/\Below w.heap.size w w'):=fun w=>ZaM [103,101,116] w;have es:=Zaf [103,101,116];generalize Za9 [103,101,116] n s=F at i⊢;rw[show Za3 6 s=ZaU s from rfl]at i;have q:Hid (∀w,Calls prog 244 #[.string (S s)] w fun e w'=>(∃v,w'=w.drewN v)/\∃a b,e=.returned (.tuple #[.string a,.string b,.bool (ZaU s)])):=fun w=>(Zd2 s w p).mono (by
  rintro e w'⟨t,⟨y,rfl⟩|⟨y,rfl⟩⟩
  ·exact⟨t,_,_,rfl⟩
  ·have:ZaU s=false:=by unfold ZaU;rw[Yan (by omega)];rfl
   rw[this];exact⟨t,_,_,rfl⟩)
 generalize ZaU s=c at q i;have r:=Hd i;clear i;go_enter func233,ntmps233
 go_wp2_with fail;have l:Below w.heap.size w (w.alloc (.cells #[.string (S [103,101,116]),.int .i64 n,.string (S s)] 28)):=(Yab _ w).alloc (Yad _) _;refine(z.o _).mono ?_;rintro e f⟨rfl,j⟩;have g:f.heap[w.heap.size]?=some (.cells #[.string (S [103,101,116]),.int .i64 n,.string (S s)] 28 (0,0)):=(Yae (S:=fun _=>False) j).heap (heap_alloc_new w _) id;have h:Below w.heap.size w f:=l.trans (j.mono l.size);have D:f.cell? ⟨w.heap.size,0,none⟩=some (.string (S [103,101,116])):=by simp[World.cell?,g]
 have B:f.cell? ⟨w.heap.size,1,none⟩=some (.int .i64 n):=by simp[World.cell?,g]
 have C:f.cell? ⟨w.heap.size,2,none⟩=some (.string (S s)):=by simp[World.cell?,g]
 clear l j g;by_cases m:n=0
 ·subst m;go_wp2_with fail;refine(q.o _).mono ?_;rintro e w2⟨⟨v,d⟩,A,x,rfl⟩;have k:Below w.heap.size w w2:=by rw[d];exact h.trans (ZaD f v |>.mono h.size)
  clear d;cases c<;>go_wp2
  all_goals go_ret
  all_goals exact⟨by rw[r.o];rfl,k⟩
 ·have E:(n==0)=false:=by rw[Yah];exact m
  have u:=Hd m;clear m;go_wp2_with fail;refine(q.o _).mono ?_;rintro e w2⟨⟨v,d⟩,A,x,rfl⟩;have k:Below w.heap.size w w2:=by rw[d];exact h.trans (ZaD f v |>.mono h.size)
  clear d;go_wp2;go_ret;exact⟨by rw[r.o,Yan u.o];rfl,k⟩
theorem Zjb (n:Int)(s:List UInt8)(w:World)(p:s.length<=9223372036854775807):Calls prog 233 #[insV [112,117,116] n s] w (ZbT (Za9 [112,117,116] n s) w):=by
 have i:=ZbO [112,117,116] n s 6 (by decide) (by decide) (by decide);have z:Hid (∀w,Calls prog 8 #[.string (S [112,117,116])] w fun e w'=>e=.returned (.int .i64 2)/\Below w.heap.size w w'):=fun w=>ZaM [112,117,116] w;have es:=Zaf [112,117,116];generalize Za9 [112,117,116] n s=F at i⊢;rw[show Za3 6 s=ZaU s from rfl]at i;have q:Hid (∀w,Calls prog 244 #[.string (S s)] w fun e w'=>(∃v,w'=w.drewN v)/\∃a b,e=.returned (.tuple #[.string a,.string b,.bool (ZaU s)])):=fun w=>(Zd2 s w p).mono (by
  rintro e w'⟨t,⟨y,rfl⟩|⟨y,rfl⟩⟩
  ·exact⟨t,_,_,rfl⟩
  ·have:ZaU s=false:=by unfold ZaU;rw[Yan (by omega)];rfl
   rw[this];exact⟨t,_,_,rfl⟩)
 generalize ZaU s=c at q i;have r:=Hd i;clear i;go_enter func233,ntmps233
 go_wp2_with fail;have l:Below w.heap.size w (w.alloc (.cells #[.string (S [112,117,116]),.int .i64 n,.string (S s)] 28)):=(Yab _ w).alloc (Yad _) _;refine(z.o _).mono ?_;rintro e f⟨rfl,j⟩;have g:f.heap[w.heap.size]?=some (.cells #[.string (S [112,117,116]),.int .i64 n,.string (S s)] 28 (0,0)):=(Yae (S:=fun _=>False) j).heap (heap_alloc_new w _) id;have h:Below w.heap.size w f:=l.trans (j.mono l.size);have D:f.cell? ⟨w.heap.size,0,none⟩=some (.string (S [112,117,116])):=by simp[World.cell?,g]
 have B:f.cell? ⟨w.heap.size,1,none⟩=some (.int .i64 n):=by simp[World.cell?,g]
 have C:f.cell? ⟨w.heap.size,2,none⟩=some (.string (S s)):=by simp[World.cell?,g]
 clear l j g;by_cases m:n=0
 ·subst m;go_wp2_with fail;refine(q.o _).mono ?_;rintro e w2⟨⟨v,d⟩,A,x,rfl⟩;have k:Below w.heap.size w w2:=by rw[d];exact h.trans (ZaD f v |>.mono h.size)
  clear d;cases c<;>go_wp2
  all_goals go_ret
  all_goals exact⟨by rw[r.o];rfl,k⟩
 ·have E:(n==0)=false:=by rw[Yah];exact m
  have u:=Hd m;clear m;go_wp2_with fail;refine(q.o _).mono ?_;rintro e w2⟨⟨v,d⟩,A,x,rfl⟩;have k:Below w.heap.size w w2:=by rw[d];exact h.trans (ZaD f v |>.mono h.size)
  clear d;go_wp2;go_ret;exact⟨by rw[r.o,Yan u.o];rfl,k⟩
theorem ZhQ (n:Int)(s:List UInt8)(w:World)(p:s.length<=9223372036854775807):Calls prog 233 #[insV [99,97,108,108] n s] w (ZbT (Za9 [99,97,108,108] n s) w):=by
 have i:=ZbO [99,97,108,108] n s 6 (by decide) (by decide) (by decide);have z:Hid (∀w,Calls prog 8 #[.string (S [99,97,108,108])] w fun e w'=>e=.returned (.int .i64 2)/\Below w.heap.size w w'):=fun w=>ZaM [99,97,108,108] w;have es:=Zaf [99,97,108,108];generalize Za9 [99,97,108,108] n s=F at i⊢;rw[show Za3 6 s=ZaU s from rfl]at i;have q:Hid (∀w,Calls prog 244 #[.string (S s)] w fun e w'=>(∃v,w'=w.drewN v)/\∃a b,e=.returned (.tuple #[.string a,.string b,.bool (ZaU s)])):=fun w=>(Zd2 s w p).mono (by
  rintro e w'⟨t,⟨y,rfl⟩|⟨y,rfl⟩⟩
  ·exact⟨t,_,_,rfl⟩
  ·have:ZaU s=false:=by unfold ZaU;rw[Yan (by omega)];rfl
   rw[this];exact⟨t,_,_,rfl⟩)
 generalize ZaU s=c at q i;have r:=Hd i;clear i;go_enter func233,ntmps233
 go_wp2_with fail;have l:Below w.heap.size w (w.alloc (.cells #[.string (S [99,97,108,108]),.int .i64 n,.string (S s)] 28)):=(Yab _ w).alloc (Yad _) _;refine(z.o _).mono ?_;rintro e f⟨rfl,j⟩;have g:f.heap[w.heap.size]?=some (.cells #[.string (S [99,97,108,108]),.int .i64 n,.string (S s)] 28 (0,0)):=(Yae (S:=fun _=>False) j).heap (heap_alloc_new w _) id;have h:Below w.heap.size w f:=l.trans (j.mono l.size);have D:f.cell? ⟨w.heap.size,0,none⟩=some (.string (S [99,97,108,108])):=by simp[World.cell?,g]
 have B:f.cell? ⟨w.heap.size,1,none⟩=some (.int .i64 n):=by simp[World.cell?,g]
 have C:f.cell? ⟨w.heap.size,2,none⟩=some (.string (S s)):=by simp[World.cell?,g]
 clear l j g;by_cases m:n=0
 ·subst m;go_wp2_with fail;refine(q.o _).mono ?_;rintro e w2⟨⟨v,d⟩,A,x,rfl⟩;have k:Below w.heap.size w w2:=by rw[d];exact h.trans (ZaD f v |>.mono h.size)
  clear d;cases c<;>go_wp2
  all_goals go_ret
  all_goals exact⟨by rw[r.o];rfl,k⟩
 ·have E:(n==0)=false:=by rw[Yah];exact m
  have u:=Hd m;clear m;go_wp2_with fail;refine(q.o _).mono ?_;rintro e w2⟨⟨v,d⟩,A,x,rfl⟩;have k:Below w.heap.size w w2:=by rw[d];exact h.trans (ZaD f v |>.mono h.size)
  clear d;go_wp2;go_ret;exact⟨by rw[r.o,Yan u.o];rfl,k⟩
theorem ZhS (n:Int)(s:List UInt8)(w:World)(L:s.length<=9223372036854775807):Calls prog 233 #[insV [119,111,114,100] n s] w (ZbT (Za9 [119,111,114,100] n s) w):=by
 have u:=ZbO [119,111,114,100] n s 2 (by decide) (by decide) (by decide);have Z:Hid (∀w,Calls prog 8 #[.string (S [119,111,114,100])] w fun e w'=>e=.returned (.int .i64 2)/\Below w.heap.size w w'):=fun w=>ZaM [119,111,114,100] w;have es:=Zaf [119,111,114,100];generalize Za9 [119,111,114,100] n s=af at u⊢;rw[show Za3 2 s=(decide (s.length<=64)&&Lib.validD s&&!s.contains 10)from rfl]at u;have U:Hid (∀w,s.length<=64->Calls prog 243 #[.string (S s)] w fun e w'=>e=.returned (.bool (Lib.validD s))/\∃aa,w'=w.drewN aa):=fun w I=>Zp2 s w (by omega);have R:((S s).size:Int)=(s.length:Int):=by rw[Zat]
 obtain⟨m,M⟩:∃m,m=s.length:=⟨_,rfl⟩
 rw[←M]at u R;have ac:m<=9223372036854775807:=by omega
 have Q:=Hd M;clear M L;obtain⟨V,Y⟩:∃V,V=Lib.validD s:=⟨_,rfl⟩
 rw[←Y]at U u;clear Y;have g:=Hd u;clear u;go_enter func233,ntmps233
 go_wp2_with fail;have E:Below w.heap.size w (w.alloc (.cells #[.string (S [119,111,114,100]),.int .i64 n,.string (S s)] 28)):=(Yab _ w).alloc (Yad _) _;refine(Z.o _).mono ?_;rintro e h⟨rfl,y⟩;have q:h.heap[w.heap.size]?=some (.cells #[.string (S [119,111,114,100]),.int .i64 n,.string (S s)] 28 (0,0)):=(Yae (S:=fun _=>False) y).heap (heap_alloc_new w _) id;have d:Below w.heap.size w h:=E.trans (y.mono E.size);have F:h.cell? ⟨w.heap.size,0,none⟩=some (.string (S [119,111,114,100])):=by simp[World.cell?,q]
 have z:h.cell? ⟨w.heap.size,1,none⟩=some (.int .i64 n):=by simp[World.cell?,q]
 have r:h.cell? ⟨w.heap.size,2,none⟩=some (.string (S s)):=by simp[World.cell?,q]
 clear E y q;by_cases H:n=0
 ·subst H;by_cases t:m<=64
  ·have B:(m:Int)<=64:=by omega
   rw[Yas t]at g;go_wp2_with fail;refine(U.o _ (by have:=Q.o;omega)).mono ?_;rintro e w2⟨rfl,aa,D⟩;have b:Below w.heap.size w w2:=by rw[D];exact d.trans (ZaD h aa |>.mono d.size)
   have G:w2.cell? ⟨w.heap.size,2,none⟩=some (.string (S s)):=by rw[D];exact r
   clear D d F z r t B;cases V
   ·go_wp2;generalize i:w2=W at b G⊢;clear i;go_loopw [4,5] (fun j a wr=>wr=W/\j=.bool false/\∃k:Nat,k<=m/\a=.int .i64 k) (fun _ a _=>m-(intOf a).toNat)
    case atStart=>exact⟨rfl,rfl,0,Yao _,rfl⟩
    case round=>
     obtain⟨rfl,rfl,k,N,rfl⟩:=hrel;by_cases A:k<m
     ·go_wp2;go_roundw
      case rel=>exact⟨trivial,by first|trivial|rfl,k+1,by omega,by go_num⟩
      case measure=>simp[intOf];omega
     ·obtain rfl:k=m:=by omega
      go_wp2;go_ret;exact⟨by rw[g.o];rfl,b⟩
   ·go_wp2;generalize i:w2=W at b G⊢;clear i;go_loopw [4,5] (fun j a wr=>wr=W/\∃k:Nat,k<=m/\a=.int .i64 k/\j=.bool (!(s.take k).contains 10)) (fun _ a _=>m-(intOf a).toNat)
    case atStart=>exact⟨rfl,0,Yao _,rfl,rfl⟩
    case round=>
     obtain⟨rfl,k,N,rfl,rfl⟩:=hrel;by_cases A:k<m
     ·have J:k<s.length:=by have:=Q.o;omega
      have l:=Zhn s k J;obtain⟨x,P⟩:∃x,x=s.getD k 0:=⟨_,rfl⟩
      obtain⟨c,O⟩:∃c,c=x.toNat:=⟨_,rfl⟩
      have ab:∀I:k<(S s).size,((S s)[k]'I).toNat=c:=fun I=>by rw[O,P,S_at s k J I]
      rw[←P]at l;have K:(x==10)=decide (c=10):=by
       rw[O,Ybk,beq_iff_eq,YaP];exact⟨fun I=>by rw[I];rfl,fun I=>UInt8.toNat_inj.1 I⟩
      rw[K]at l;have p:=Hd l;clear l P O K;generalize (s.take k).contains 10=old at p⊢;cases old
      ·by_cases v:c=10
       ·subst v;go_wp2;go_roundw
        case rel=>exact⟨trivial,k+1,by omega,by go_num,by rw[p.o];rfl⟩
        case measure=>simp[intOf];omega
       ·have ad:((c:Int) != 10)=true:=by rw[bne_iff_ne];omega
        have T:=Hd v;clear v;go_wp2;go_roundw
        case rel=>exact⟨trivial,k+1,by omega,by go_num,by rw[p.o,Yan T.o];rfl⟩
        case measure=>simp[intOf];omega
      ·go_wp2;go_roundw
       case rel=>exact⟨trivial,k+1,by omega,by go_num,by rw[p.o];rfl⟩
       case measure=>simp[intOf];omega
     ·obtain rfl:k=m:=by omega
      have C:s.take k=s:=Yaz (by have:=Q.o;omega);rw[C];generalize s.contains 10=f at g⊢;clear C;cases f
      ·go_wp2;go_ret;exact⟨by rw[g.o];rfl,b⟩
      ·go_wp2;go_ret;exact⟨by rw[g.o];rfl,b⟩
  ·have B:decide ((m:Int)<=64)=false:=by simp;omega
   rw[Yan t]at g;clear t;go_wp2;generalize i:h=W at d r⊢;clear i F z;have b:=d;go_loopw [4,5] (fun j a wr=>wr=W/\j=.bool false/\∃k:Nat,k<=m/\a=.int .i64 k) (fun _ a _=>m-(intOf a).toNat)
   case atStart=>exact⟨rfl,rfl,0,Yao _,rfl⟩
   case round=>
    obtain⟨rfl,rfl,k,N,rfl⟩:=hrel;by_cases A:k<m
    ·go_wp2;go_roundw
     case rel=>exact⟨trivial,by first|trivial|rfl,k+1,by omega,by go_num⟩
     case measure=>simp[intOf];omega
    ·obtain rfl:k=m:=by omega
     go_wp2;go_ret;exact⟨by rw[g.o];rfl,b⟩
 ·have ae:(n==0)=false:=by rw[Yah];exact H
  have X:=Hd H;clear H;go_wp2;generalize i:h=W at d r⊢;clear i F z;have b:=d;go_loopw [4,5] (fun j a wr=>wr=W/\j=.bool false/\∃k:Nat,k<=m/\a=.int .i64 k) (fun _ a _=>m-(intOf a).toNat)
  case atStart=>exact⟨rfl,rfl,0,Yao _,rfl⟩
  case round=>
   obtain⟨rfl,rfl,k,N,rfl⟩:=hrel;by_cases A:k<m
   ·go_wp2;go_roundw
    case rel=>exact⟨trivial,by first|trivial|rfl,k+1,by omega,by go_num⟩
    case measure=>simp[intOf];omega
   ·obtain rfl:k=m:=by omega
    go_wp2;go_ret;exact⟨by rw[g.o,Yan X.o];rfl,b⟩
theorem Zrv:∀k:Fin 42,2<=Zbz k.val->ZaB k.val=[119,111,114,100]\/ZaB k.val=[110,101,119]\/ZaB k.val=[103,101,116]\/ZaB k.val=[112,117,116]\/ZaB k.val=[99,97,108,108]\/ZaB k.val=[97,114,114,97,121]\/ZaB k.val=[105,115]\/ZaB k.val=[99,97,115,116]:=by decide
theorem ZgD (c:List UInt8)(n:Int)(s:List UInt8)(w:World)(A:Nat)(t:Int)(v:t=0\/t=1)(p:∀w,Calls prog 8 #[.string (S c)] w fun e w'=>e=.returned (.int .i64 t)/\Below w.heap.size w w')
  (m:A=if((decide (t=1) || decide (n=0))&&s.isEmpty)=true then 0 else 41):Calls prog 233 #[insV c n s] w (ZbT A w):=by
 have u:=Hd p;have l:=Hd m;clear p m;obtain⟨j,d⟩:∃j,j=(n==0):=⟨_,rfl⟩
 have k:decide (n=0)=j:=by rw[d,Ybk,YaP,beq_iff_eq]
 rw[k]at l;clear k;obtain⟨i,a⟩:∃i,i=s.isEmpty:=⟨_,rfl⟩
 rw[←a]at l;have es:=Zaf s;have y:([]==s)=i:=by rw[a];cases s<;>rfl
 have z:(s==[])=i:=by rw[a];cases s<;>rfl
 have x:=a.symm;have r:=d.symm;clear a d;rcases v with rfl|rfl
 all_goals go_enter func233,ntmps233
 all_goals go_wp2_with fail
 all_goals
  have h:Below w.heap.size w (w.alloc (.cells #[.string (S c),.int .i64 n,.string (S s)] 28)):=(Yab _ w).alloc (Yad _) _;refine(u.o _).mono ?_;rintro e f⟨rfl,g⟩;have b:f.heap[w.heap.size]?=some (.cells #[.string (S c),.int .i64 n,.string (S s)] 28 (0,0)):=(Yae (S:=fun _=>False) g).heap (heap_alloc_new w _) id;have q:Below w.heap.size w f:=h.trans (g.mono h.size);have D:f.cell? ⟨w.heap.size,0,none⟩=some (.string (S c)):=by simp[World.cell?,b]
  have B:f.cell? ⟨w.heap.size,1,none⟩=some (.int .i64 n):=by simp[World.cell?,b]
  have C:f.cell? ⟨w.heap.size,2,none⟩=some (.string (S s)):=by simp[World.cell?,b]
  clear h g b;cases j<;>cases i<;>go_wp2
 all_goals go_ret
 all_goals exact⟨by rw[l.o];rfl,q⟩
theorem Zi8 (a:List UInt8)(n:Int)(s:List UInt8)(w:World)(b:s.length<=9223372036854775807):Calls prog 233 #[insV a n s] w (ZbT (Za9 a n s) w):=by
 by_cases c:idx a<42
 ·by_cases q:2<=Zbz (idx a)
  ·have r:=beq_iff_eq.1 (Zf1 a c);have j:=Zrv ⟨idx a,c⟩ q;rw[show ZaB (⟨idx a,c⟩:Fin 42).val=a from r]at j;rcases j with d|d|d|d|d|d|d|d<;>rw[d]
   ·exact ZhS n s w b
   ·exact Zja n s w b
   ·exact Zi9 n s w b
   ·exact Zjb n s w b
   ·exact ZhQ n s w b
   ·exact ZgC n s w b
   ·exact Zkh n s w b
   ·exact ZhR n s w b
  ·have k:Za9 a n s=(if Zbz (idx a)≠1/\n≠0 then 41 else if Za3 (Zbz (idx a)) s then 0 else 41):=Yay c;have p:refT a=if Zbz (idx a)=1 then 1 else 0:=by
    unfold refT;rw[Yay c,Yar q]
   have m:Za3 (Zbz (idx a)) s=s.isEmpty:=by
    unfold Za3;rw[Yar (by omega),Yar (by omega),Yar (by omega),Yar (by omega),Yar (by omega)];cases s<;>rfl
   rw[m]at k;refine ZgD a n s w _ (refT a) (by rw[p];split<;>simp) (fun w=>ZaM a w) ?_;rw[k,p];by_cases g:Zbz (idx a)=1
   ·rw[Yar (fun x=>x.1 g),Yay g];rfl
   ·rw[Yar g];by_cases h:n=0
    ·rw[Yar (fun x=>x.2 h),Yas h];rfl
    ·rw[Yay ⟨g,h⟩,Yan h];rfl
 ·have l:Hid (Za9 a n s=40):=Hd (Yar c);have v:=Hd (fun w=>(show Calls prog 8 #[.string (S a)] w fun e w'=>e=.returned (.int .i64 (-1))/\Below w.heap.size w w' from by
   have d:=ZaM a w;rw[show refT a=-1 from Yar c]at d;exact d))
  clear c;generalize Za9 a n s=y at l⊢;go_enter func233,ntmps233
  go_wp2_with fail;have f:Below w.heap.size w (w.alloc (.cells #[.string (S a),.int .i64 n,.string (S s)] 28)):=(Yab _ w).alloc (Yad _) _;refine(v.o _).mono ?_;rintro e u⟨rfl,i⟩;have t:Below w.heap.size w u:=f.trans (i.mono f.size);clear i f;go_wp2;go_ret;exact⟨by rw[l.o];rfl,t⟩
theorem ZmS (l:List Ins)(sv:Value)(w:World)(P:InsSrc w sv l)(c:∀x∈l,x.s.length<=9223372036854775807)(B:l.length<=9223372036854775807) :
  Calls prog 211 #[sv] w fun e w'=>e=.returned (.int .i64 (allE l:Nat))/\Below w.heap.size w w':=by
 have N:=Hd c;clear c;rcases P with⟨Z,R,rfl,rfl⟩|⟨b,o,V,rfl,I⟩
 ·go_enter func211,ntmps211;go_wp2
  go_loopw [3] (fun g wr=>g=.int .i64 0/\wr=w) (fun _ _=>0)
  case atStart=>exact⟨rfl,rfl⟩
  case round=>
   obtain⟨rfl,rfl⟩:=hrel;go_wp2;go_ret;exact⟨rfl,Yab _ _⟩
 ·have Q:=Hd I;obtain⟨n,y⟩:∃n,n=l.length:=⟨_,rfl⟩
  rw[←y]at B⊢;have D:=Hd y;clear I y;go_enter func211,ntmps211;go_wp2
  go_loopw [3] (fun g wr=>∃k:Nat,k<=n/\g=.int .i64 k/\Below w.heap.size w wr/\allE l=allE (l.drop k)) (fun g _=>n-(intOf g).toNat)
  case atStart=>exact⟨0,Yao _,rfl,Yab _ _,rfl⟩
  case round=>
   obtain⟨k,Y,rfl,C,d⟩:=hrel;have A:=Hd d;have h:=Hd C;clear d C;by_cases W:k<n
   ·have q:k<l.length:=by have:=D.o;omega
    obtain⟨x,j⟩:∃x,l[k]?=some x:=⟨_,Yaa q⟩
    obtain⟨G,J,H⟩:=Q.o k x j;have i:=Yae (S:=fun _=>False) h.o;have L:=i.cell G id;have O:=i.cell J id;have M:=i.cell H id;have f:=Znp l k x j;have F:=Hd (N.o x (Yaf j));obtain⟨E,v⟩:∃E,E=x.e:=⟨_,rfl⟩
    rw[←v]at f;have m:Hid (Calls prog 233 #[.agg #[.string (S x.op),.int .i64 x.n,.string (S x.s)]] wr (ZbT E wr)):=Hd (by rw[v];exact Zi8 x.op x.n x.s wr F.o);have t:=Hd f;clear G J H j q i f v;have T:(0:Int)<=k:=by omega
    have U:(k:Int)<(n:Int):=by omega
    go_wp2_with fail;refine m.o.mono ?_;rintro e K⟨rfl,p⟩;have u:Below w.heap.size w K:=h.o.trans (p.mono h.o.size);have r:=Hd u;clear p u L O M m;by_cases a:E=0
    ·subst a;go_wp2;go_roundw
     case rel=>exact⟨k+1,by omega,by go_num,r.o,by rw[A.o];exact t.o⟩
     case measure=>simp[intOf];omega
    ·have X:((E:Int) != 0)=true:=by rw[bne_iff_ne];omega
     have z:=Hd a;clear a;go_wp2;go_ret;refine⟨?_,r.o⟩;rw[A.o,t.o,Yar z.o];rfl
   ·obtain rfl:k=n:=by omega
    have a:allE l=0:=by rw[A.o,List.drop_of_length_le (by rw[D.o];exact Yad _)];rfl
    have z:=Hd a;clear a;go_wp2;go_ret;exact⟨by rw[z.o];rfl,h.o⟩
