/- laws -/
import Derived.KernelRfl
import Derived.Laws.BytesArg
import Derived.Lib.ConvBytes
import Derived.Deep.Cut
import Derived.Test.YtggcdinoflchjaaGreatDoorK03
set_option maxRecDepth 100000
set_option maxHeartbeats 16000000
namespace Go.Proofs.YtggcdinoflchjaaGreatDoor
open Go.RowKit
def opTab:List (List UInt8 × Nat):=[
 ([105,110,116],1),
 ([116,114,117,101],0),
 ([102,97,108,115,101],0),
 ([119,111,114,100],2),
 ([110,117,108,108],0),
 ([108,111,97,100],1),
 ([115,116,111,114,101],1),
 ([112,111,112],0),
 ([100,117,112],0),
 ([115,119,97,112],0),
 ([97,100,100],0),
 ([115,117,98],0),
 ([109,117,108],0),
 ([100,105,118],0),
 ([114,101,109],0),
 ([110,101,103],0),
 ([108,101,115,115],0),
 ([115,97,109,101],0),
 ([110,111,116],0),
 ([98,111,116,104],0),
 ([106,111,105,110],0),
 ([115,105,122,101],0),
 ([106,117,109,112],1),
 ([98,114,97,110,99,104],1),
 ([110,101,119],3),
 ([103,101,116],6),
 ([112,117,116],6),
 ([99,97,108,108],6),
 ([97,114,114,97,121],5),
 ([97,116],0),
 ([115,101,116],0),
 ([105,115],4),
 ([99,97,115,116],4),
 ([114,101,116,117,114,110],0),
 ([116,104,114,111,119],0),
 ([111,117,116],0),
 ([101,113,117,97,108],0),
 ([97,110,100],0),
 ([111,114],0),
 ([120,111,114],0),
 ([115,104,108],0),
 ([115,104,114],0)]
def ZaK (k:Nat):List UInt8:=(opTab.getD k ([],0)).1
def Zbm (k:Nat):Nat:=(opTab.getD k ([],0)).2
def idx (s:List UInt8):Nat:=opTab.findIdx fun x=>x.1 == s
def opCells:List Value:=opTab.flatMap fun x=>[.string (S x.1),.int .i64 (x.2:Nat)]
theorem ZcJ:opTab.length=42:=by decide
theorem Zmh (s:List UInt8):idx s<=42:=by
 have a:=List.findIdx_le_length (xs:=opTab) (p:=fun x=>x.1 == s);rw [ZcJ] at a;exact a
theorem Zet (k:Nat) (a:k<opTab.length):ZaK k=opTab[k].1:=by
 unfold ZaK;rw [Yam,Yaa a];rfl
theorem ZfS (s:List UInt8) (a:Nat) (d:a<idx s):(ZaK a == s)=false:=by
 have c:a<opTab.length:=Ybi d (by rw [ZcJ];exact Zmh s);have b:=List.not_of_lt_findIdx (p:=fun x:List UInt8 × Nat=>x.1 == s) (xs:=opTab) d;rw [Zet a c]
 simpa using b
theorem Zho (s:List UInt8) (c:idx s<42):(ZaK (idx s) == s)=true:=by
 have a:idx s<opTab.length:=by rw [ZcJ];exact c
 have b:=YbU (p:=fun x:List UInt8 × Nat=>x.1 == s) (xs:=opTab) (w:=a);rw [Zet _ a];exact b
theorem at_end:ZaK 42=[]/\Zbm 42=0:=by decide
def Za0 (k:Nat):Value:=.agg #[.string (S (ZaK k)),.int .i64 (Zbm k:Nat)]
theorem Zm3 (w:World):(Instr.index 230 (.agg opCells.toArray) (.int .i64 0)).run Tryz.prog w=.ok (Za0 0) w:=by kernel_rfl
theorem Zm4 (w:World):(Instr.index 230 (.agg opCells.toArray) (.int .i64 1)).run Tryz.prog w=.ok (Za0 1) w:=by kernel_rfl
theorem Zm5 (w:World):(Instr.index 230 (.agg opCells.toArray) (.int .i64 2)).run Tryz.prog w=.ok (Za0 2) w:=by kernel_rfl
theorem Zm6 (w:World):(Instr.index 230 (.agg opCells.toArray) (.int .i64 3)).run Tryz.prog w=.ok (Za0 3) w:=by kernel_rfl
theorem Zm7 (w:World):(Instr.index 230 (.agg opCells.toArray) (.int .i64 4)).run Tryz.prog w=.ok (Za0 4) w:=by kernel_rfl
theorem Zm8 (w:World):(Instr.index 230 (.agg opCells.toArray) (.int .i64 5)).run Tryz.prog w=.ok (Za0 5) w:=by kernel_rfl
theorem Zm9 (w:World):(Instr.index 230 (.agg opCells.toArray) (.int .i64 6)).run Tryz.prog w=.ok (Za0 6) w:=by kernel_rfl
theorem Zna (w:World):(Instr.index 230 (.agg opCells.toArray) (.int .i64 7)).run Tryz.prog w=.ok (Za0 7) w:=by kernel_rfl
theorem Znb (w:World):(Instr.index 230 (.agg opCells.toArray) (.int .i64 8)).run Tryz.prog w=.ok (Za0 8) w:=by kernel_rfl
theorem Znc (w:World):(Instr.index 230 (.agg opCells.toArray) (.int .i64 9)).run Tryz.prog w=.ok (Za0 9) w:=by kernel_rfl
theorem ZkA (w:World):(Instr.index 230 (.agg opCells.toArray) (.int .i64 10)).run Tryz.prog w=.ok (Za0 10) w:=by kernel_rfl
theorem ZkB (w:World):(Instr.index 230 (.agg opCells.toArray) (.int .i64 11)).run Tryz.prog w=.ok (Za0 11) w:=by kernel_rfl
theorem ZkC (w:World):(Instr.index 230 (.agg opCells.toArray) (.int .i64 12)).run Tryz.prog w=.ok (Za0 12) w:=by kernel_rfl
theorem ZkD (w:World):(Instr.index 230 (.agg opCells.toArray) (.int .i64 13)).run Tryz.prog w=.ok (Za0 13) w:=by kernel_rfl
theorem ZkE (w:World):(Instr.index 230 (.agg opCells.toArray) (.int .i64 14)).run Tryz.prog w=.ok (Za0 14) w:=by kernel_rfl
theorem ZkF (w:World):(Instr.index 230 (.agg opCells.toArray) (.int .i64 15)).run Tryz.prog w=.ok (Za0 15) w:=by kernel_rfl
theorem ZkG (w:World):(Instr.index 230 (.agg opCells.toArray) (.int .i64 16)).run Tryz.prog w=.ok (Za0 16) w:=by kernel_rfl
theorem ZkH (w:World):(Instr.index 230 (.agg opCells.toArray) (.int .i64 17)).run Tryz.prog w=.ok (Za0 17) w:=by kernel_rfl
theorem ZkI (w:World):(Instr.index 230 (.agg opCells.toArray) (.int .i64 18)).run Tryz.prog w=.ok (Za0 18) w:=by kernel_rfl
theorem ZkJ (w:World):(Instr.index 230 (.agg opCells.toArray) (.int .i64 19)).run Tryz.prog w=.ok (Za0 19) w:=by kernel_rfl
theorem ZkK (w:World):(Instr.index 230 (.agg opCells.toArray) (.int .i64 20)).run Tryz.prog w=.ok (Za0 20) w:=by kernel_rfl
theorem ZkL (w:World):(Instr.index 230 (.agg opCells.toArray) (.int .i64 21)).run Tryz.prog w=.ok (Za0 21) w:=by kernel_rfl
theorem ZkM (w:World):(Instr.index 230 (.agg opCells.toArray) (.int .i64 22)).run Tryz.prog w=.ok (Za0 22) w:=by kernel_rfl
theorem ZkN (w:World):(Instr.index 230 (.agg opCells.toArray) (.int .i64 23)).run Tryz.prog w=.ok (Za0 23) w:=by kernel_rfl
theorem ZkO (w:World):(Instr.index 230 (.agg opCells.toArray) (.int .i64 24)).run Tryz.prog w=.ok (Za0 24) w:=by kernel_rfl
theorem ZkP (w:World):(Instr.index 230 (.agg opCells.toArray) (.int .i64 25)).run Tryz.prog w=.ok (Za0 25) w:=by kernel_rfl
theorem ZkQ (w:World):(Instr.index 230 (.agg opCells.toArray) (.int .i64 26)).run Tryz.prog w=.ok (Za0 26) w:=by kernel_rfl
theorem ZkR (w:World):(Instr.index 230 (.agg opCells.toArray) (.int .i64 27)).run Tryz.prog w=.ok (Za0 27) w:=by kernel_rfl
theorem ZkS (w:World):(Instr.index 230 (.agg opCells.toArray) (.int .i64 28)).run Tryz.prog w=.ok (Za0 28) w:=by kernel_rfl
theorem ZkT (w:World):(Instr.index 230 (.agg opCells.toArray) (.int .i64 29)).run Tryz.prog w=.ok (Za0 29) w:=by kernel_rfl
theorem ZkU (w:World):(Instr.index 230 (.agg opCells.toArray) (.int .i64 30)).run Tryz.prog w=.ok (Za0 30) w:=by kernel_rfl
theorem ZkV (w:World):(Instr.index 230 (.agg opCells.toArray) (.int .i64 31)).run Tryz.prog w=.ok (Za0 31) w:=by kernel_rfl
theorem ZkW (w:World):(Instr.index 230 (.agg opCells.toArray) (.int .i64 32)).run Tryz.prog w=.ok (Za0 32) w:=by kernel_rfl
theorem ZkX (w:World):(Instr.index 230 (.agg opCells.toArray) (.int .i64 33)).run Tryz.prog w=.ok (Za0 33) w:=by kernel_rfl
theorem ZkY (w:World):(Instr.index 230 (.agg opCells.toArray) (.int .i64 34)).run Tryz.prog w=.ok (Za0 34) w:=by kernel_rfl
theorem ZkZ (w:World):(Instr.index 230 (.agg opCells.toArray) (.int .i64 35)).run Tryz.prog w=.ok (Za0 35) w:=by kernel_rfl
theorem Zk0 (w:World):(Instr.index 230 (.agg opCells.toArray) (.int .i64 36)).run Tryz.prog w=.ok (Za0 36) w:=by kernel_rfl
theorem Zk1 (w:World):(Instr.index 230 (.agg opCells.toArray) (.int .i64 37)).run Tryz.prog w=.ok (Za0 37) w:=by kernel_rfl
theorem Zk2 (w:World):(Instr.index 230 (.agg opCells.toArray) (.int .i64 38)).run Tryz.prog w=.ok (Za0 38) w:=by kernel_rfl
theorem Zk3 (w:World):(Instr.index 230 (.agg opCells.toArray) (.int .i64 39)).run Tryz.prog w=.ok (Za0 39) w:=by kernel_rfl
theorem Zk4 (w:World):(Instr.index 230 (.agg opCells.toArray) (.int .i64 40)).run Tryz.prog w=.ok (Za0 40) w:=by kernel_rfl
theorem Zk5 (w:World):(Instr.index 230 (.agg opCells.toArray) (.int .i64 41)).run Tryz.prog w=.ok (Za0 41) w:=by kernel_rfl
theorem ZoT (k:Nat) (a:k<42) (w:World):(Instr.index 230 (.agg opCells.toArray) (.int .i64 (k:Nat))).run Tryz.prog w=.ok (.agg #[.string (S (ZaK k)),.int .i64 (Zbm k:Nat)]) w:=
 match k,a with
 | 0,_=>Zm3 w
 | 1,_=>Zm4 w
 | 2,_=>Zm5 w
 | 3,_=>Zm6 w
 | 4,_=>Zm7 w
 | 5,_=>Zm8 w
 | 6,_=>Zm9 w
 | 7,_=>Zna w
 | 8,_=>Znb w
 | 9,_=>Znc w
 | 10,_=>ZkA w
 | 11,_=>ZkB w
 | 12,_=>ZkC w
 | 13,_=>ZkD w
 | 14,_=>ZkE w
 | 15,_=>ZkF w
 | 16,_=>ZkG w
 | 17,_=>ZkH w
 | 18,_=>ZkI w
 | 19,_=>ZkJ w
 | 20,_=>ZkK w
 | 21,_=>ZkL w
 | 22,_=>ZkM w
 | 23,_=>ZkN w
 | 24,_=>ZkO w
 | 25,_=>ZkP w
 | 26,_=>ZkQ w
 | 27,_=>ZkR w
 | 28,_=>ZkS w
 | 29,_=>ZkT w
 | 30,_=>ZkU w
 | 31,_=>ZkV w
 | 32,_=>ZkW w
 | 33,_=>ZkX w
 | 34,_=>ZkY w
 | 35,_=>ZkZ w
 | 36,_=>Zk0 w
 | 37,_=>Zk1 w
 | 38,_=>Zk2 w
 | 39,_=>Zk3 w
 | 40,_=>Zk4 w
 | 41,_=>Zk5 w
 | n+42,b=>absurd b (by omega)
theorem ZjL {a:Addr} {w:World} {v:Value} (d:w.cell? a=some v):∃ b c,a=⟨b,c,none⟩:=by
 obtain ⟨b,c,f⟩:=a;cases f with
 | none=>exact ⟨b,c,rfl⟩
 | some g=>
  exfalso
  unfold World.cell? at d;split at d
  ·simp at d
  ·cases d
theorem Zaf (w:World) (o:Obj) (b:Nat) (a:b=w.heap.size):(w.alloc o).heap[b]? = some o:=by rw [a];exact heap_alloc_new w o
theorem Zak {P:Program} {w:World} {b:Array Oper} {rest:List Oper} {o:Oper} {a:Act} {l:Exit->Act->World->Prop} (d:o.guard=none) (s x:Operand) (t:TypeId)
  (i:o.op=.call { callee:=.builtin .append,args:=#[s,x],argTypes:=#[t,t] }) (sv f g:Value) (w':World) (h:a.eval s=sv) (k:a.eval x=f)
  (c:(Builtin.append_ #[t,t] o.type #[sv,f]).run P w=.ok g w') (m:wpList P b l rest (a.put o.dst g) w'):wpList P b l (o :: rest) a w:=by
 refine wpList_plain d fun n j=>?_
 unfold Oper.wp;simp only [execOp,i,resolve,invoke,builtin,Sem.run_bind,Sem.run_pure,Result.andThen_ok,List.map_toArray,YbJ,Ycr,h,k,c];exact j _ _ m
def OpTab (w:World):Prop:=w.rangeAt 2 0 opCells
theorem OpTab.keep {w w':World} (c:OpTab w) (b:Below w.heap.size w w'):OpTab w':=fun d v a=>
 (Yad (S:=fun _=>False) b).cell (c d v a) id
theorem ZqM {w:World} {b:Nat} {x f:Value} {t:TypeId} {c:Nat × Nat} (d:w.heap[b]? = some (.cells #[x,f] t c)):w.rangeAt b 0 [x,f]:=by
 intro g v a
 match g,a with
 | 0,a=>simp at a;subst a;simp [World.cell?,d]
 | 1,a=>simp at a;subst a;simp [World.cell?,d]
 | g+2,a=>simp at a
theorem set2 {w:World} {b:Nat} {x d u v:Value} {t:TypeId} {a:Nat × Nat} (c:w.heap[b]? = some (.cells #[x,d] t a)):((w.setCell ⟨b,0,none⟩ u).setCell ⟨b,1,none⟩ v).heap[b]? = some (.cells #[u,v] t a):=by
 rw [Zb5 (Zb5 c)];rfl
theorem Zot:(Tryz.prog.info? 217).map (·.size)=some 2:=by kernel_rfl
theorem ZiK {w:World} {b:Nat} {x c:Value} {t:TypeId} {a:Nat × Nat} (d:w.heap[b]? = some (.cells #[x,c] t a)):(loadVar 217 ⟨b,0,none⟩).run Tryz.prog w=.ok (.agg #[x,c]) w:=
 run_loadVar_mid (P:=Tryz.prog) w b 0 217 [x,c] _ (ZqM d) Tryz.underlying217 rfl Zot
theorem Zou:(Tryz.prog.info? 230).map (·.size)=some opCells.length:=by kernel_rfl
theorem Zon (I:Nat) (A:Value) (p:Nat->Bool) (i:Nat) (m:∀ args w,(callFunc I args).run Tryz.prog w=.ok (.enter I args) w)
  (w:World) (H:OpTab w)
  (F:∀ (k:Nat) (w':World),k<42->Below w.heap.size w w'->Calls Tryz.prog I #[.int .i64 k,.agg #[.string (S (ZaK k)),.int .i64 (Zbm k:Nat)],A] w' fun e y=>e=.returned (.bool (p k))/\Below w'.heap.size w' y)
  (U:i<=42) (q:∀ T,T<i->p T=false) (r:i<42->p i=true) :
  Calls Tryz.prog 261 #[.func (.func I) #[] #[A]] w fun e w'=>e=.returned (.tuple #[.int .i64 (if i<42 then i else 0:Nat),.agg #[.string (S (ZaK i)),.int .i64 (Zbm i:Nat)],.bool (decide (i<42))])/\Below w.heap.size w w':=by
 have L:=Hd F;have z:=Hd q;have C:=Hd r;have O:=Hd H;have M:=Hd m;have K:=Hd Zou;clear F q r H m;go_enter Tryz.func261,Tryz.ntmps261
 go_upto_region 1 with fail
 refine wp_region_lit ?_;refine wpList_load_mid (by rfl) 230 _ (by rfl) 2 0 (by rfl) opCells _ (O.o.keep ((Yab _ w).alloc (Yac _) _)) Tryz.underlying230 (by rfl) K.o ?_;go_wp2
 go_loopw [8] (fun t wr=>∃ k:Nat,k<=i/\t=.int .i64 k/\wr.heap[w.heap.size]? = some (.cells #[.string ⟨#[]⟩,.int .i64 0] 217 (0,0))/\Below w.heap.size w wr) (fun t _=>42 - (intOf t).toNat)
 case atStart=>exact ⟨0,Yai _,rfl,heap_alloc_new w _,(Yab _ w).alloc (Yac _) _⟩
 case round=>
  obtain ⟨k,V,rfl,b,f⟩:=hrel;by_cases l:k<42
  ·have N:(k:Int)<42:=by omega
   have R:(0:Int)<=k:=by omega
   have D:=ZoT k l;have m:=M.o;have J:=Hd b;clear b
   go_wp2_with fail
   have h:Below w.heap.size w (wr.alloc (.cells #[.string (S (ZaK k)),.int .i64 (Zbm k:Nat)] 217)):=f.alloc f.size _;refine (L.o k _ l h).mono ?_;rintro e c ⟨rfl,g⟩;have a:c.heap[w.heap.size]? = some (.cells #[.string ⟨#[]⟩,.int .i64 0] 217 (0,0)):=(Yad (S:=fun _=>False) g).heap (((Yan (fun _=>False) wr).alloc _).heap J.o id) id;have d:c.heap[wr.heap.size]? = some (.cells #[.string (S (ZaK k)),.int .i64 (Zbm k:Nat)] 217 (0,0)):=(Yad (S:=fun _=>False) g).heap (heap_alloc_new wr _) id;have n:Below w.heap.size w c:=h.trans (g.mono h.size);clear m D g h;by_cases E:k<i
   ·rw [z.o k E];have j:=Hd a;clear a d;go_wp2
    go_roundw
    case rel=>exact ⟨k+1,by omega,by go_num,j.o,n⟩
    case measure=>simp [intOf];omega
   ·obtain rfl:k=i:=by omega
    rw [C.o l];have G:c.frozen? ⟨w.heap.size,0,none⟩=false:=by simp [World.frozen?,a]
    have u:c.frozen? ⟨w.heap.size,1,none⟩=false:=by simp [World.frozen?,a]
    have B:c.cell? ⟨w.heap.size,0,none⟩=some (.string ⟨#[]⟩):=by simp [World.cell?,a]
    have x:c.cell? ⟨w.heap.size,1,none⟩=some (.int .i64 0):=by simp [World.cell?,a]
    have Q:c.cell? ⟨wr.heap.size,0,none⟩=some (.string (S (ZaK k))):=by simp [World.cell?,d]
    have P:c.cell? ⟨wr.heap.size,1,none⟩=some (.int .i64 (Zbm k:Nat)):=by simp [World.cell?,d]
    have j:=Hd a;clear a d
    go_wp2_with go_region
    have s:=ZiK (w:=((c.setCell ⟨w.heap.size,0,none⟩ (.string (S (ZaK k)))).setCell ⟨w.heap.size,1,none⟩ (.int .i64 (Zbm k:Nat))).drew) (set2 j.o);refine bodyPost_ret (v:=.tuple #[.int .i64 (k:Nat),.agg #[.string (S (ZaK k)),.int .i64 (Zbm k:Nat)],.bool true]) ?_ rfl ⟨rfl,?_⟩
    ·simp [results,Tryz.results261,asAddr,s]
    ·exact ((n.setCell (by simp) _).setCell (by simp) _).drew
  ·obtain rfl:k=42:=by omega
   obtain rfl:i=42:=by omega
   have G:wr.frozen? ⟨w.heap.size,0,none⟩=false:=by simp [World.frozen?,b]
   have u:wr.frozen? ⟨w.heap.size,1,none⟩=false:=by simp [World.frozen?,b]
   have B:wr.cell? ⟨w.heap.size,0,none⟩=some (.string ⟨#[]⟩):=by simp [World.cell?,b]
   have x:wr.cell? ⟨w.heap.size,1,none⟩=some (.int .i64 0):=by simp [World.cell?,b]
   have j:=Hd b;clear b;go_wp2;have s:=ZiK (w:=(wr.setCell ⟨w.heap.size,0,none⟩ (.string ⟨#[]⟩)).setCell ⟨w.heap.size,1,none⟩ (.int .i64 0)) (set2 j.o);refine bodyPost_ret (v:=.tuple #[.int .i64 0,.agg #[.string (S (ZaK 42)),.int .i64 (Zbm 42:Nat)],.bool false]) ?_ rfl ⟨rfl,?_⟩
   ·rw [at_end.1,at_end.2];simp [results,Tryz.results261,asAddr,s,S]
   ·exact (f.setCell (by simp) _).setCell (by simp) _

theorem Zl6 {f : FuncId} {b : Func} {c : Code} (h : Tryz.prog.funcs[f]? = some b) (a : (b.name == "runtime.NumGoroutine") = false) (g : b.body = some c) (args : Array Value) (w : World) : (callFunc f args).run Tryz.prog w = .ok (.enter f args) w := by
 have d : ¬ (b.name = "runtime.NumGoroutine") := by simpa using a
 simp [callFunc,h,d,g,mark]
theorem Zku (k b:Nat) (a s:List UInt8) (f:Int) (w:World) (c:w.cell? ⟨b,0,none⟩=some (.string (S s))) :
  Calls Tryz.prog 262 #[.int .i64 k,.agg #[.string (S a),.int .i64 f],.pointer (some ⟨b,0,none⟩)] w fun e w'=>e=.returned (.bool (a == s))/\Below w.heap.size w w':=by
 have d:∀ o:Obj,(w.alloc o).cell? ⟨b,0,none⟩=some (.string (S s)):=fun o=>((Yan (fun _=>False) w).alloc o).cell c id
 clear c;go_enter Tryz.func262,Tryz.ntmps262;go_wp2;go_ret;refine ⟨?_,(Yab _ w).alloc (Yac _) _⟩;show Ending.returned (.bool ((S a).toList == (S s).toList))=_
 rw [Zae,Zae]
def ZpV (s:List UInt8):Value:=.tuple #[.int .i64 (if idx s<42 then idx s else 0:Nat),.agg #[.string (S (ZaK (idx s))),.int .i64 (Zbm (idx s):Nat)],.bool (decide (idx s<42))]
theorem Zj1 (s:List UInt8) (w:World) (q:OpTab w) :
  Calls Tryz.prog 253 #[.string (S s)] w fun e w'=>e=.returned (ZpV s)/\Below w.heap.size w w':=by
 have E:∀ (n:Fn) (first j:Array Value) (w:World),(Instr.makeFunc n first j).run Tryz.prog w=.ok (.func n first j) w:=fun _ _ _ _=>rfl
 have B:=Hd q;clear q;unfold ZpV;obtain ⟨t,l⟩:∃ t,t=(if idx s<42 then idx s else 0):=⟨_,rfl⟩
 obtain ⟨d,m⟩:∃ d,d=decide (idx s<42):=⟨_,rfl⟩
 rw [←l,←m];have C:=Hd l;have z:=Hd m;clear l m;go_enter Tryz.func253,Tryz.ntmps253
 go_wp2_with fail
 have c:Below w.heap.size w ((w.alloc (.cells #[.string (S s)] 9)).alloc (.cells #[.string ⟨#[]⟩,.int .i64 0] 217)):=((Yab _ w).alloc (Yac _) _).alloc (by simp) _;have h:((w.alloc (.cells #[.string (S s)] 9)).alloc (.cells #[.string ⟨#[]⟩,.int .i64 0] 217)).heap[w.heap.size]? = some (.cells #[.string (S s)] 9 (0,0)):=((Yan (fun _=>False) _).alloc _).heap (heap_alloc_new w _) id;have i:((w.alloc (.cells #[.string (S s)] 9)).alloc (.cells #[.string ⟨#[]⟩,.int .i64 0] 217)).heap[w.heap.size+1]? = some (.cells #[.string ⟨#[]⟩,.int .i64 0] 217 (0,0)):=(Zaf (w.alloc _) _ _ (by simp)).trans rfl;generalize r:(w.alloc (.cells #[.string (S s)] 9)).alloc (.cells #[.string ⟨#[]⟩,.int .i64 0] 217)=D at c h i ⊢;clear r;have b:=Zon 262 (.pointer (some ⟨w.heap.size,0,none⟩)) (fun k=>ZaK k == s) (idx s) (Zl6 Tryz.func262 (by kernel_rfl) rfl) D (B.o.keep c)
  (fun k w' _ u=>Zku k _ _ s _ w' (by simp [World.cell?,(Only.ofBelow (S:=fun _=>False) u).heap h id])) (Zmh s) (fun K x=>ZfS s K x) (fun J=>Zho s J)
 rw [←C.o,←z.o] at b;refine b.mono ?_;clear b;rintro e f ⟨rfl,g⟩;have a:f.heap[w.heap.size+1]? = some (.cells #[.string ⟨#[]⟩,.int .i64 0] 217 (0,0)):=(Yad (S:=fun _=>False) g).heap i id;have p:Below w.heap.size w f:=c.trans (g.mono c.size);clear g c h i;have H:f.frozen? ⟨w.heap.size+1,0,none⟩=false:=by simp [World.frozen?,a]
 have F:f.frozen? ⟨w.heap.size+1,1,none⟩=false:=by simp [World.frozen?,a]
 have G:f.cell? ⟨w.heap.size+1,0,none⟩=some (.string ⟨#[]⟩):=by simp [World.cell?,a]
 have I:f.cell? ⟨w.heap.size+1,1,none⟩=some (.int .i64 0):=by simp [World.cell?,a]
 have A:=Hd a;clear a;go_wp2;have y:=ZiK (w:=(f.setCell ⟨w.heap.size+1,0,none⟩ (.string (S (ZaK (idx s))))).setCell ⟨w.heap.size+1,1,none⟩ (.int .i64 (Zbm (idx s):Nat))) (set2 A.o);refine bodyPost_ret (v:=.tuple #[.int .i64 (t:Nat),.agg #[.string (S (ZaK (idx s))),.int .i64 (Zbm (idx s):Nat)],.bool d]) ?_ rfl ⟨rfl,?_⟩
 ·simp [results,Tryz.results253,asAddr,y]
 ·exact (p.setCell (by simp) _).setCell (by simp) _
def depN (l:List UInt8):Nat:=if Zaj l=true then ZaO l else 0
theorem ZbF {l:List UInt8} (a:Zaj l=true):depN l=ZaO l:=by unfold depN;rw [YaC a]
theorem Zdm {l:List UInt8} (a:Zaj l=false):depN l=0:=by unfold depN;rw [Yas (by rw [a];decide)]
theorem ZpH (l:List UInt8):depN l<=3:=by
 unfold depN;split
 ·rename_i a
  unfold Zaj at a;simp at a
  exact a.1
 ·omega
def Off (l:List UInt8) (k:Nat) (a:List UInt8):Prop:=k<=3/\2 * k<=l.length/\a=l.take (l.length - 2 * k)/\ZaO l=ZaO a+k
theorem ZoN (l:List UInt8):Off l 0 l:=⟨by omega,by omega,by simp,by omega⟩
theorem ZoM {l b:List UInt8} {k:Nat} (g:Off l k b) (h:k<3) (c:Zbk b=true):Off l (k+1) (b.take (b.length - 2)):=by
 obtain ⟨_,i,a,d⟩:=g;have j:=Zda c;have f:b.length=l.length - 2 * k:=by rw [a,Yay];omega
 refine ⟨by omega,by omega,?_,by rw [d,Zcr c];omega⟩;rw [f,a,Ycy]
 congr 1
 omega
theorem Zm0 {l b:List UInt8} {k:Nat} (j:Off l k b) (a:Zbk b=false\/k=3):Zaj l=(ZaB b || Zal b)/\(Zaj l=true->depN l=k):=by
 obtain ⟨i,q,m,h⟩:=j;cases d:Zbk b with
 | false=>
  have c:ZaO l=k:=by rw [h,ZcC d];omega
  have f:Zbe l=b:=by unfold Zbe;rw [c,m]
  refine ⟨by unfold Zaj;rw [f,c,Yat i,Yax];rfl,fun g=>by rw [ZbF g,c]⟩
 | true=>
  have p:k=3:=by rcases a with a|a;(rw [d] at a;cases a);exact a
  have c:¬ ZaO l<=3:=by rw [h,Zcr d];omega
  have g:Zaj l=false:=by unfold Zaj;rw [Yaj c,YaF]
  have n:(ZaB b || Zal b)=false:=by
   cases f:(ZaB b || Zal b) with
   | false=>rfl
   | true=>
    have:=Zde (ZdN (l:=b) f);rw [d] at this;cases this
  rw [g,n];exact ⟨rfl,fun j=>by cases j⟩
theorem Zp6 {l a:List UInt8} {k:Nat} (b:Off l k a):a.length<=l.length:=by rw [b.2.2.1,Yay];omega
def Zqk (l:List UInt8) (w:World) (e:Ending) (w':World):Prop:=e=.returned (.tuple #[.int .i64 (depN l),.bool (Zaj l)])/\Below w.heap.size w w'
theorem ZcF {a b:Nat} {c d:Bool} (g:a=b) (f:c=d):Ending.returned (.tuple #[.int .i64 (a:Int),.bool c])=.returned (.tuple #[.int .i64 (b:Int),.bool d]):=by rw [g,f]
theorem ZeY (l:List UInt8) (w:World) (D:l.length<=9223372036854775807) :
  Calls Tryz.prog 144 #[.string (S l)] w (Zqk l w):=by
 go_enter Tryz.func144,Tryz.ntmps144;go_wp2
 go_loop [0,4] (fun A x=>∃ (k:Nat) (p:List UInt8),A=.string (S p)/\x=.int .i64 k/\Off l k p) (fun _ x=>3 - (intOf x).toNat)
 case atStart=>exact ⟨0,l,rfl,rfl,ZoN l⟩
 case round=>
  obtain ⟨k,p,rfl,rfl,n⟩:=hrel;have E:=n.1;have F:=Zp6 n;have i:=Hd n;clear n;have q:=Hd (fun w=>Zkc p w (by omega));have d:=Hd (Zfr p);have g:=Hd (fun w=>ZbM p w (by omega));cases m:Zbk p with
  | true=>
   by_cases v:k<3
   ·have B:=Hd (fun w=>Zfw p w (by omega) m);have C:=Hd (ZoM i.o v m);rw [m] at q;have z:(k:Int)<3:=by omega
    clear m
    go_wp2_with fail
    refine (q.o _).mono ?_;rintro e w' ⟨rfl,rfl⟩
    go_wp2_with fail
    refine (B.o _).mono ?_;rintro e w' ⟨rfl,rfl⟩;go_wp2
    go_round
    case rel=>exact ⟨k+1,_,rfl,by go_num,C.o⟩
    case measure=>simp [intOf];omega
   ·obtain rfl:k=3:=by omega
    obtain ⟨h,s⟩:=Zm0 i.o (.inr rfl);have y:(ZaB p || Zal p)=false:=by
     cases f:(ZaB p || Zal p) with
     | false=>rfl
     | true=>
      have:=Zde (ZdN (l:=p) f);rw [m] at this;cases this
    rw [y] at h;rw [Ybs] at y;obtain ⟨u,t⟩:=y;rw [u] at d;rw [t] at g;have b:=Hd h;clear m h s u t q i
    go_wp2_with fail
    refine (d.o _).mono ?_;rintro e w' ⟨rfl,rfl⟩
    go_wp2_with fail
    refine (g.o _).mono ?_;rintro e w' ⟨rfl,f⟩;go_wp2
    go_ret2
    exact ⟨ZcF (a:=0) (Zdm b.o).symm b.o.symm,f⟩
  | false=>
   obtain ⟨h,s⟩:=Zm0 i.o (.inl m);rw [m] at q;have b:=Hd h;have r:=Hd s;clear m h s;by_cases v:k<3
   ·have z:(k:Int)<3:=by omega
    cases c:ZaB p with
    | true=>
     rw [c] at d;rw [c,Yco] at b;clear c
     go_wp2_with fail
     refine (q.o _).mono ?_;rintro e w' ⟨rfl,rfl⟩
     go_wp2_with fail
     refine (d.o _).mono ?_;rintro e w' ⟨rfl,rfl⟩;go_wp2
     go_ret2
     exact ⟨ZcF (r.o b.o).symm b.o.symm,Yab _ _⟩
    | false=>
     rw [c] at d;rw [c,YaS] at b;clear c;cases j:Zal p with
     | true=>
      rw [j] at g b;clear j
      go_wp2_with fail
      refine (q.o _).mono ?_;rintro e w' ⟨rfl,rfl⟩
      go_wp2_with fail
      refine (d.o _).mono ?_;rintro e w' ⟨rfl,rfl⟩
      go_wp2_with fail
      refine (g.o _).mono ?_;rintro e w' ⟨rfl,f⟩;go_wp2
      go_ret2
      exact ⟨ZcF (r.o b.o).symm b.o.symm,f⟩
     | false=>
      rw [j] at g b;clear j
      go_wp2_with fail
      refine (q.o _).mono ?_;rintro e w' ⟨rfl,rfl⟩
      go_wp2_with fail
      refine (d.o _).mono ?_;rintro e w' ⟨rfl,rfl⟩
      go_wp2_with fail
      refine (g.o _).mono ?_;rintro e w' ⟨rfl,f⟩;go_wp2
      go_ret2
      exact ⟨ZcF (a:=0) (Zdm b.o).symm b.o.symm,f⟩
   ·obtain rfl:k=3:=by omega
    clear q;cases c:ZaB p with
    | true=>
     rw [c] at d;rw [c,Yco] at b;clear c
     go_wp2_with fail
     refine (d.o _).mono ?_;rintro e w' ⟨rfl,rfl⟩;go_wp2
     go_ret2
     exact ⟨ZcF (r.o b.o).symm b.o.symm,Yab _ _⟩
    | false=>
     rw [c] at d;rw [c,YaS] at b;clear c;cases j:Zal p with
     | true=>
      rw [j] at g b;clear j
      go_wp2_with fail
      refine (d.o _).mono ?_;rintro e w' ⟨rfl,rfl⟩
      go_wp2_with fail
      refine (g.o _).mono ?_;rintro e w' ⟨rfl,f⟩;go_wp2
      go_ret2
      exact ⟨ZcF (r.o b.o).symm b.o.symm,f⟩
     | false=>
      rw [j] at g b;clear j
      go_wp2_with fail
      refine (d.o _).mono ?_;rintro e w' ⟨rfl,rfl⟩
      go_wp2_with fail
      refine (g.o _).mono ?_;rintro e w' ⟨rfl,f⟩;go_wp2
      go_ret2
      exact ⟨ZcF (a:=0) (Zdm b.o).symm b.o.symm,f⟩
theorem Zfu (l:List UInt8) (w:World) (a:l.length<=9223372036854775807) :
  Calls Tryz.prog 160 #[.string (S l)] w (Said (Zaj l) w):=by
 go_enter Tryz.func160,Tryz.ntmps160
 go_wp2_with fail
 refine (ZeY l w a).mono ?_;rintro e w' ⟨rfl,b⟩;go_wp2;go_ret;exact ⟨rfl,b⟩
def Zib (n:Nat) (w:World) (e:Ending) (w':World):Prop:=e=.returned (.int .i64 n)/\Below w.heap.size w w'
theorem Zd4 (l:List UInt8) (w:World) (a:l.length<=9223372036854775807) :
  Calls Tryz.prog 96 #[.string (S l)] w (Zib (depN l) w):=by
 go_enter Tryz.func96,Tryz.ntmps96
 go_wp2_with fail
 refine (ZeY l w a).mono ?_;rintro e w' ⟨rfl,b⟩;go_wp2;go_ret;exact ⟨rfl,b⟩
def Zca (l:List UInt8) (w:World) (e:Ending) (w':World):Prop:=e=.returned (.string (S l))/\Below w.heap.size w w'
def Zqo (l:List UInt8) (w:World) (e:Ending) (w':World):Prop:=
 (if Zaj l=true/\ZaO l<=2 then e=.returned (.tuple #[.string (S (ofL l)),.int .i64 0]) else e=.returned (.tuple #[.string ⟨#[]⟩,.int .i64 30]))/\Below w.heap.size w w'
theorem Zpq (l:List UInt8) (w:World) (h:l.length<=9223372036854775807) :
  Calls Tryz.prog 139 #[.string (S l)] w (Zqo l w):=by
 have b:=Hd (ZeY l w h);unfold Zqk at b;cases a:Zaj l with
 | false=>
  have f:=Hd (show ¬ (Zaj l=true/\ZaO l<=2) from fun j=>by rw [a] at j;cases j.1);rw [a] at b;clear a;go_enter Tryz.func139,Tryz.ntmps139
  go_wp2_with fail
  refine b.o.mono ?_;rintro e w' ⟨rfl,c⟩;go_wp2
  go_ret2
  exact ⟨by rw [Yas f.o];rfl,c⟩
 | true=>
  have i:=ZbF a;rw [a] at b;by_cases g:ZaO l<=2
  ·have f:=Hd (show Zaj l=true/\ZaO l<=2 from ⟨a,g⟩);have d:((depN l:Int) == 3)=false:=by rw [Yah];omega
   have n:Hid (S l++⟨#[91,93]⟩=S (ofL l)):=Zck l [91,93];have m:(S l).size+2<=9223372036854775807:=by
    have k:=(Zby (Zew a)).2;rw [ZcQ] at k;rw [Zay];omega
   clear a i g;generalize depN l=p at *;go_enter Tryz.func139,Tryz.ntmps139
   go_wp2_with fail
   refine b.o.mono ?_;rintro e w' ⟨rfl,c⟩;go_wp2
   go_ret2
   exact ⟨by rw [YaC f.o];rfl,c⟩
  ·have f:=Hd (show ¬ (Zaj l=true/\ZaO l<=2) from fun j=>g j.2);have d:depN l=3:=by have:=ZpH l;omega
   rw [d] at b;clear a i g d;go_enter Tryz.func139,Tryz.ntmps139
   go_wp2_with fail
   refine b.o.mono ?_;rintro e w' ⟨rfl,c⟩;go_wp2
   go_ret2
   exact ⟨by rw [Yas f.o];rfl,c⟩
