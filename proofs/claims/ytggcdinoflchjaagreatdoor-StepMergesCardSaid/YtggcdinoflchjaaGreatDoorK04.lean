/- laws -/
import Derived.KernelRfl
import Derived.Laws.BytesArg
import Derived.Lib.ConvBytes
import Derived.Deep.Cut
import Derived.Test.YtggcdinoflchjaaGreatDoorK03
set_option maxRecDepth 100000
set_option maxHeartbeats 16000000
namespace Go.Proofs.YtggcdinoflchjaaGreatDoor
open Go.RowKit
def opTab:List (List UInt8 × Nat):=[
 ([105,110,116],1),
 ([116,114,117,101],0),
 ([102,97,108,115,101],0),
 ([119,111,114,100],2),
 ([110,117,108,108],0),
 ([108,111,97,100],1),
 ([115,116,111,114,101],1),
 ([112,111,112],0),
 ([100,117,112],0),
 ([115,119,97,112],0),
 ([97,100,100],0),
 ([115,117,98],0),
 ([109,117,108],0),
 ([100,105,118],0),
 ([114,101,109],0),
 ([110,101,103],0),
 ([108,101,115,115],0),
 ([115,97,109,101],0),
 ([110,111,116],0),
 ([98,111,116,104],0),
 ([106,111,105,110],0),
 ([115,105,122,101],0),
 ([106,117,109,112],1),
 ([98,114,97,110,99,104],1),
 ([110,101,119],3),
 ([103,101,116],6),
 ([112,117,116],6),
 ([99,97,108,108],6),
 ([97,114,114,97,121],5),
 ([97,116],0),
 ([115,101,116],0),
 ([105,115],4),
 ([99,97,115,116],4),
 ([114,101,116,117,114,110],0),
 ([116,104,114,111,119],0),
 ([111,117,116],0),
 ([101,113,117,97,108],0),
 ([97,110,100],0),
 ([111,114],0),
 ([120,111,114],0),
 ([115,104,108],0),
 ([115,104,114],0)]
def ZaM (k:Nat):List UInt8:=(opTab.getD k ([],0)).1
def Zbv (k:Nat):Nat:=(opTab.getD k ([],0)).2
def idx (s:List UInt8):Nat:=opTab.findIdx fun x=>x.1 == s
def opCells:List Value:=opTab.flatMap fun x=>[.string (S x.1),.int .i64 (x.2:Nat)]
theorem ZcX:opTab.length=42:=by decide
theorem ZmO (s:List UInt8):idx s<=42:=by
 have h:=List.findIdx_le_length (xs:=opTab) (p:=fun x=>x.1 == s);rw [ZcX] at h;exact h
theorem ZeN (k:Nat) (h:k<opTab.length):ZaM k=opTab[k].1:=by
 unfold ZaM;rw [Yao,Yaa h];rfl
theorem Zgm (s:List UInt8) (j:Nat) (h:j<idx s):(ZaM j == s)=false:=by
 have hl:j<opTab.length:=Ybi h (by rw [ZcX];exact ZmO s);have h1:=List.not_of_lt_findIdx (p:=fun x:List UInt8 × Nat=>x.1 == s) (xs:=opTab) h;rw [ZeN j hl]
 simpa using h1
theorem ZhR (s:List UInt8) (h:idx s<42):(ZaM (idx s) == s)=true:=by
 have hl:idx s<opTab.length:=by rw [ZcX];exact h
 have h1:=Yb1 (p:=fun x:List UInt8 × Nat=>x.1 == s) (xs:=opTab) (w:=hl);rw [ZeN _ hl];exact h1
theorem at_end:ZaM 42=[]/\Zbv 42=0:=by decide
def Zba (k:Nat):Value:=.agg #[.string (S (ZaM k)),.int .i64 (Zbv k:Nat)]
theorem ZnG (w:World):(Instr.index 230 (.agg opCells.toArray) (.int .i64 0)).run Tryz.prog w=.ok (Zba 0) w:=by kernel_rfl
theorem ZnH (w:World):(Instr.index 230 (.agg opCells.toArray) (.int .i64 1)).run Tryz.prog w=.ok (Zba 1) w:=by kernel_rfl
theorem ZnI (w:World):(Instr.index 230 (.agg opCells.toArray) (.int .i64 2)).run Tryz.prog w=.ok (Zba 2) w:=by kernel_rfl
theorem ZnJ (w:World):(Instr.index 230 (.agg opCells.toArray) (.int .i64 3)).run Tryz.prog w=.ok (Zba 3) w:=by kernel_rfl
theorem ZnK (w:World):(Instr.index 230 (.agg opCells.toArray) (.int .i64 4)).run Tryz.prog w=.ok (Zba 4) w:=by kernel_rfl
theorem ZnL (w:World):(Instr.index 230 (.agg opCells.toArray) (.int .i64 5)).run Tryz.prog w=.ok (Zba 5) w:=by kernel_rfl
theorem ZnM (w:World):(Instr.index 230 (.agg opCells.toArray) (.int .i64 6)).run Tryz.prog w=.ok (Zba 6) w:=by kernel_rfl
theorem ZnN (w:World):(Instr.index 230 (.agg opCells.toArray) (.int .i64 7)).run Tryz.prog w=.ok (Zba 7) w:=by kernel_rfl
theorem ZnO (w:World):(Instr.index 230 (.agg opCells.toArray) (.int .i64 8)).run Tryz.prog w=.ok (Zba 8) w:=by kernel_rfl
theorem ZnP (w:World):(Instr.index 230 (.agg opCells.toArray) (.int .i64 9)).run Tryz.prog w=.ok (Zba 9) w:=by kernel_rfl
theorem Zk1 (w:World):(Instr.index 230 (.agg opCells.toArray) (.int .i64 10)).run Tryz.prog w=.ok (Zba 10) w:=by kernel_rfl
theorem Zk2 (w:World):(Instr.index 230 (.agg opCells.toArray) (.int .i64 11)).run Tryz.prog w=.ok (Zba 11) w:=by kernel_rfl
theorem Zk3 (w:World):(Instr.index 230 (.agg opCells.toArray) (.int .i64 12)).run Tryz.prog w=.ok (Zba 12) w:=by kernel_rfl
theorem Zk4 (w:World):(Instr.index 230 (.agg opCells.toArray) (.int .i64 13)).run Tryz.prog w=.ok (Zba 13) w:=by kernel_rfl
theorem Zk5 (w:World):(Instr.index 230 (.agg opCells.toArray) (.int .i64 14)).run Tryz.prog w=.ok (Zba 14) w:=by kernel_rfl
theorem Zk6 (w:World):(Instr.index 230 (.agg opCells.toArray) (.int .i64 15)).run Tryz.prog w=.ok (Zba 15) w:=by kernel_rfl
theorem Zk7 (w:World):(Instr.index 230 (.agg opCells.toArray) (.int .i64 16)).run Tryz.prog w=.ok (Zba 16) w:=by kernel_rfl
theorem Zk8 (w:World):(Instr.index 230 (.agg opCells.toArray) (.int .i64 17)).run Tryz.prog w=.ok (Zba 17) w:=by kernel_rfl
theorem Zk9 (w:World):(Instr.index 230 (.agg opCells.toArray) (.int .i64 18)).run Tryz.prog w=.ok (Zba 18) w:=by kernel_rfl
theorem Zla (w:World):(Instr.index 230 (.agg opCells.toArray) (.int .i64 19)).run Tryz.prog w=.ok (Zba 19) w:=by kernel_rfl
theorem Zlb (w:World):(Instr.index 230 (.agg opCells.toArray) (.int .i64 20)).run Tryz.prog w=.ok (Zba 20) w:=by kernel_rfl
theorem Zlc (w:World):(Instr.index 230 (.agg opCells.toArray) (.int .i64 21)).run Tryz.prog w=.ok (Zba 21) w:=by kernel_rfl
theorem Zld (w:World):(Instr.index 230 (.agg opCells.toArray) (.int .i64 22)).run Tryz.prog w=.ok (Zba 22) w:=by kernel_rfl
theorem Zle (w:World):(Instr.index 230 (.agg opCells.toArray) (.int .i64 23)).run Tryz.prog w=.ok (Zba 23) w:=by kernel_rfl
theorem Zlf (w:World):(Instr.index 230 (.agg opCells.toArray) (.int .i64 24)).run Tryz.prog w=.ok (Zba 24) w:=by kernel_rfl
theorem Zlg (w:World):(Instr.index 230 (.agg opCells.toArray) (.int .i64 25)).run Tryz.prog w=.ok (Zba 25) w:=by kernel_rfl
theorem Zlh (w:World):(Instr.index 230 (.agg opCells.toArray) (.int .i64 26)).run Tryz.prog w=.ok (Zba 26) w:=by kernel_rfl
theorem Zli (w:World):(Instr.index 230 (.agg opCells.toArray) (.int .i64 27)).run Tryz.prog w=.ok (Zba 27) w:=by kernel_rfl
theorem Zlj (w:World):(Instr.index 230 (.agg opCells.toArray) (.int .i64 28)).run Tryz.prog w=.ok (Zba 28) w:=by kernel_rfl
theorem Zlk (w:World):(Instr.index 230 (.agg opCells.toArray) (.int .i64 29)).run Tryz.prog w=.ok (Zba 29) w:=by kernel_rfl
theorem Zll (w:World):(Instr.index 230 (.agg opCells.toArray) (.int .i64 30)).run Tryz.prog w=.ok (Zba 30) w:=by kernel_rfl
theorem Zlm (w:World):(Instr.index 230 (.agg opCells.toArray) (.int .i64 31)).run Tryz.prog w=.ok (Zba 31) w:=by kernel_rfl
theorem Zln (w:World):(Instr.index 230 (.agg opCells.toArray) (.int .i64 32)).run Tryz.prog w=.ok (Zba 32) w:=by kernel_rfl
theorem Zlo (w:World):(Instr.index 230 (.agg opCells.toArray) (.int .i64 33)).run Tryz.prog w=.ok (Zba 33) w:=by kernel_rfl
theorem Zlp (w:World):(Instr.index 230 (.agg opCells.toArray) (.int .i64 34)).run Tryz.prog w=.ok (Zba 34) w:=by kernel_rfl
theorem Zlq (w:World):(Instr.index 230 (.agg opCells.toArray) (.int .i64 35)).run Tryz.prog w=.ok (Zba 35) w:=by kernel_rfl
theorem Zlr (w:World):(Instr.index 230 (.agg opCells.toArray) (.int .i64 36)).run Tryz.prog w=.ok (Zba 36) w:=by kernel_rfl
theorem Zls (w:World):(Instr.index 230 (.agg opCells.toArray) (.int .i64 37)).run Tryz.prog w=.ok (Zba 37) w:=by kernel_rfl
theorem Zlt (w:World):(Instr.index 230 (.agg opCells.toArray) (.int .i64 38)).run Tryz.prog w=.ok (Zba 38) w:=by kernel_rfl
theorem Zlu (w:World):(Instr.index 230 (.agg opCells.toArray) (.int .i64 39)).run Tryz.prog w=.ok (Zba 39) w:=by kernel_rfl
theorem Zlv (w:World):(Instr.index 230 (.agg opCells.toArray) (.int .i64 40)).run Tryz.prog w=.ok (Zba 40) w:=by kernel_rfl
theorem Zlw (w:World):(Instr.index 230 (.agg opCells.toArray) (.int .i64 41)).run Tryz.prog w=.ok (Zba 41) w:=by kernel_rfl
theorem Zps (k:Nat) (hk:k<42) (w:World):(Instr.index 230 (.agg opCells.toArray) (.int .i64 (k:Nat))).run Tryz.prog w=.ok (.agg #[.string (S (ZaM k)),.int .i64 (Zbv k:Nat)]) w:=
 match k,hk with
 | 0,_=>ZnG w
 | 1,_=>ZnH w
 | 2,_=>ZnI w
 | 3,_=>ZnJ w
 | 4,_=>ZnK w
 | 5,_=>ZnL w
 | 6,_=>ZnM w
 | 7,_=>ZnN w
 | 8,_=>ZnO w
 | 9,_=>ZnP w
 | 10,_=>Zk1 w
 | 11,_=>Zk2 w
 | 12,_=>Zk3 w
 | 13,_=>Zk4 w
 | 14,_=>Zk5 w
 | 15,_=>Zk6 w
 | 16,_=>Zk7 w
 | 17,_=>Zk8 w
 | 18,_=>Zk9 w
 | 19,_=>Zla w
 | 20,_=>Zlb w
 | 21,_=>Zlc w
 | 22,_=>Zld w
 | 23,_=>Zle w
 | 24,_=>Zlf w
 | 25,_=>Zlg w
 | 26,_=>Zlh w
 | 27,_=>Zli w
 | 28,_=>Zlj w
 | 29,_=>Zlk w
 | 30,_=>Zll w
 | 31,_=>Zlm w
 | 32,_=>Zln w
 | 33,_=>Zlo w
 | 34,_=>Zlp w
 | 35,_=>Zlq w
 | 36,_=>Zlr w
 | 37,_=>Zls w
 | 38,_=>Zlt w
 | 39,_=>Zlu w
 | 40,_=>Zlv w
 | 41,_=>Zlw w
 | n+42,h=>absurd h (by omega)
theorem Zkd {a:Addr} {w:World} {v:Value} (h:w.cell? a=some v):∃ b off,a=⟨b,off,none⟩:=by
 obtain ⟨b,off,sp⟩:=a;cases sp with
 | none=>exact ⟨b,off,rfl⟩
 | some q=>
  exfalso
  unfold World.cell? at h;split at h
  ·simp at h
  ·cases h
theorem Zaf (w:World) (o:Obj) (b:Nat) (h:b=w.heap.size):(w.alloc o).heap[b]? = some o:=by rw [h];exact heap_alloc_new w o
theorem Zap {P:Program} {w:World} {ops:Array Oper} {rest:List Oper} {o:Oper} {a:Act} {Q:Exit->Act->World->Prop} (hgd:o.guard=none) (s x:Operand) (t:TypeId)
  (ho:o.op=.call { callee:=.builtin .append,args:=#[s,x],argTypes:=#[t,t] }) (sv xv v':Value) (w':World) (hs:a.eval s=sv) (hx:a.eval x=xv)
  (hrun:(Builtin.append_ #[t,t] o.type #[sv,xv]).run P w=.ok v' w') (h:wpList P ops Q rest (a.put o.dst v') w'):wpList P ops Q (o :: rest) a w:=by
 refine wpList_plain hgd fun K hK=>?_
 unfold Oper.wp;simp only [execOp,ho,resolve,invoke,builtin,Sem.run_bind,Sem.run_pure,Result.andThen_ok,List.map_toArray,YbH,Ycs,hs,hx,hrun];exact hK _ _ h
def OpTab (w:World):Prop:=w.rangeAt 2 0 opCells
theorem OpTab.keep {w w':World} (h:OpTab w) (hb:Below w.heap.size w w'):OpTab w':=fun j v hj=>
 (Yaf (S:=fun _=>False) hb).cell (h j v hj) id
theorem Zrf {w:World} {b:Nat} {x y:Value} {t:TypeId} {fz:Nat × Nat} (h:w.heap[b]? = some (.cells #[x,y] t fz)):w.rangeAt b 0 [x,y]:=by
 intro j v hj
 match j,hj with
 | 0,hj=>simp at hj;subst hj;simp [World.cell?,h]
 | 1,hj=>simp at hj;subst hj;simp [World.cell?,h]
 | j+2,hj=>simp at hj
theorem set2 {w:World} {b:Nat} {x y u v:Value} {t:TypeId} {fz:Nat × Nat} (h:w.heap[b]? = some (.cells #[x,y] t fz)):((w.setCell ⟨b,0,none⟩ u).setCell ⟨b,1,none⟩ v).heap[b]? = some (.cells #[u,v] t fz):=by
 rw [Zck (Zck h)];rfl
theorem Zo2:(Tryz.prog.info? 217).map (·.size)=some 2:=by kernel_rfl
theorem Zjc {w:World} {b:Nat} {x y:Value} {t:TypeId} {fz:Nat × Nat} (h:w.heap[b]? = some (.cells #[x,y] t fz)):(loadVar 217 ⟨b,0,none⟩).run Tryz.prog w=.ok (.agg #[x,y]) w:=
 run_loadVar_mid (P:=Tryz.prog) w b 0 217 [x,y] _ (Zrf h) Tryz.underlying217 rfl Zo2
theorem Zo3:(Tryz.prog.info? 230).map (·.size)=some opCells.length:=by kernel_rfl
theorem ZoW (F:Nat) (cp:Value) (p:Nat->Bool) (N:Nat) (he:∀ args w,(callFunc F args).run Tryz.prog w=.ok (.enter F args) w)
  (w:World) (hO:OpTab w)
  (hF:∀ (k:Nat) (w':World),k<42->Below w.heap.size w w'->Calls Tryz.prog F #[.int .i64 k,.agg #[.string (S (ZaM k)),.int .i64 (Zbv k:Nat)],cp] w' fun e w''=>e=.returned (.bool (p k))/\Below w'.heap.size w' w'')
  (hN:N<=42) (hlo:∀ j,j<N->p j=false) (hat:N<42->p N=true) :
  Calls Tryz.prog 261 #[.func (.func F) #[] #[cp]] w fun e w'=>e=.returned (.tuple #[.int .i64 (if N<42 then N else 0:Nat),.agg #[.string (S (ZaM N)),.int .i64 (Zbv N:Nat)],.bool (decide (N<42))])/\Below w.heap.size w w':=by
 have HF:=Hd hF;have HLO:=Hd hlo;have HAT:=Hd hat;have HO:=Hd hO;have HE:=Hd he;have HI:=Hd Zo3;clear hF hlo hat hO he;go_enter Tryz.func261,Tryz.ntmps261
 go_upto_region 1 with fail
 refine wp_region_lit ?_;refine wpList_load_mid (by rfl) 230 _ (by rfl) 2 0 (by rfl) opCells _ (HO.o.keep ((Yab _ w).alloc (Yac _) _)) Tryz.underlying230 (by rfl) HI.o ?_;go_wp2
 go_loopw [8] (fun v8 wr=>∃ k:Nat,k<=N/\v8=.int .i64 k/\wr.heap[w.heap.size]? = some (.cells #[.string ⟨#[]⟩,.int .i64 0] 217 (0,0))/\Below w.heap.size w wr) (fun v8 _=>42 - (intOf v8).toNat)
 case atStart=>exact ⟨0,Yai _,rfl,heap_alloc_new w _,(Yab _ w).alloc (Yac _) _⟩
 case round=>
  obtain ⟨k,hk,rfl,hblk,hbel⟩:=hrel;by_cases hlt:k<42
  ·have hlt':(k:Int)<42:=by omega
   have hk0:(0:Int)<=k:=by omega
   have hix:=Zps k hlt;have he:=HE.o;have HB:=Hd hblk;clear hblk
   go_wp2_with fail
   have hbA:Below w.heap.size w (wr.alloc (.cells #[.string (S (ZaM k)),.int .i64 (Zbv k:Nat)] 217)):=hbel.alloc hbel.size _;refine (HF.o k _ hlt hbA).mono ?_;rintro e w1 ⟨rfl,hb1⟩;have hres:w1.heap[w.heap.size]? = some (.cells #[.string ⟨#[]⟩,.int .i64 0] 217 (0,0)):=(Yaf (S:=fun _=>False) hb1).heap (((Yam (fun _=>False) wr).alloc _).heap HB.o id) id;have hnew:w1.heap[wr.heap.size]? = some (.cells #[.string (S (ZaM k)),.int .i64 (Zbv k:Nat)] 217 (0,0)):=(Yaf (S:=fun _=>False) hb1).heap (heap_alloc_new wr _) id;have hbw:Below w.heap.size w w1:=hbA.trans (hb1.mono hbA.size);clear he hix hb1 hbA;by_cases hkn:k<N
   ·rw [HLO.o k hkn];have HR:=Hd hres;clear hres hnew;go_wp2
    go_roundw
    case rel=>exact ⟨k+1,by omega,by go_num,HR.o,hbw⟩
    case measure=>simp [intOf];omega
   ·obtain rfl:k=N:=by omega
    rw [HAT.o hlt];have hf0:w1.frozen? ⟨w.heap.size,0,none⟩=false:=by simp [World.frozen?,hres]
    have hf1:w1.frozen? ⟨w.heap.size,1,none⟩=false:=by simp [World.frozen?,hres]
    have hc0:w1.cell? ⟨w.heap.size,0,none⟩=some (.string ⟨#[]⟩):=by simp [World.cell?,hres]
    have hc1:w1.cell? ⟨w.heap.size,1,none⟩=some (.int .i64 0):=by simp [World.cell?,hres]
    have hn0:w1.cell? ⟨wr.heap.size,0,none⟩=some (.string (S (ZaM k))):=by simp [World.cell?,hnew]
    have hn1:w1.cell? ⟨wr.heap.size,1,none⟩=some (.int .i64 (Zbv k:Nat)):=by simp [World.cell?,hnew]
    have HR:=Hd hres;clear hres hnew
    go_wp2_with go_region
    have hl:=Zjc (w:=((w1.setCell ⟨w.heap.size,0,none⟩ (.string (S (ZaM k)))).setCell ⟨w.heap.size,1,none⟩ (.int .i64 (Zbv k:Nat))).drew) (set2 HR.o);refine bodyPost_ret (v:=.tuple #[.int .i64 (k:Nat),.agg #[.string (S (ZaM k)),.int .i64 (Zbv k:Nat)],.bool true]) ?_ rfl ⟨rfl,?_⟩
    ·simp [results,Tryz.results261,asAddr,hl]
    ·exact ((hbw.setCell (by simp) _).setCell (by simp) _).drew
  ·obtain rfl:k=42:=by omega
   obtain rfl:N=42:=by omega
   have hf0:wr.frozen? ⟨w.heap.size,0,none⟩=false:=by simp [World.frozen?,hblk]
   have hf1:wr.frozen? ⟨w.heap.size,1,none⟩=false:=by simp [World.frozen?,hblk]
   have hc0:wr.cell? ⟨w.heap.size,0,none⟩=some (.string ⟨#[]⟩):=by simp [World.cell?,hblk]
   have hc1:wr.cell? ⟨w.heap.size,1,none⟩=some (.int .i64 0):=by simp [World.cell?,hblk]
   have HR:=Hd hblk;clear hblk;go_wp2;have hl:=Zjc (w:=(wr.setCell ⟨w.heap.size,0,none⟩ (.string ⟨#[]⟩)).setCell ⟨w.heap.size,1,none⟩ (.int .i64 0)) (set2 HR.o);refine bodyPost_ret (v:=.tuple #[.int .i64 0,.agg #[.string (S (ZaM 42)),.int .i64 (Zbv 42:Nat)],.bool false]) ?_ rfl ⟨rfl,?_⟩
   ·rw [at_end.1,at_end.2];simp [results,Tryz.results261,asAddr,hl,S]
   ·exact (hbel.setCell (by simp) _).setCell (by simp) _

theorem ZmD {f : FuncId} {fn : Func} {c : Code} (hf : Tryz.prog.funcs[f]? = some fn) (hname : (fn.name == "runtime.NumGoroutine") = false) (hb : fn.body = some c) (args : Array Value) (w : World) : (callFunc f args).run Tryz.prog w = .ok (.enter f args) w := by
 have h1 : ¬ (fn.name = "runtime.NumGoroutine") := by simpa using hname
 simp [callFunc,hf,h1,hb,mark]
theorem ZkW (k b:Nat) (a s:List UInt8) (h:Int) (w:World) (hc:w.cell? ⟨b,0,none⟩=some (.string (S s))) :
  Calls Tryz.prog 262 #[.int .i64 k,.agg #[.string (S a),.int .i64 h],.pointer (some ⟨b,0,none⟩)] w fun e w'=>e=.returned (.bool (a == s))/\Below w.heap.size w w':=by
 have hcA:∀ o:Obj,(w.alloc o).cell? ⟨b,0,none⟩=some (.string (S s)):=fun o=>((Yam (fun _=>False) w).alloc o).cell hc id
 clear hc;go_enter Tryz.func262,Tryz.ntmps262;go_wp2;go_ret;refine ⟨?_,(Yab _ w).alloc (Yac _) _⟩;show Ending.returned (.bool ((S a).toList == (S s).toList))=_
 rw [Zae,Zae]
def Zqr (s:List UInt8):Value:=.tuple #[.int .i64 (if idx s<42 then idx s else 0:Nat),.agg #[.string (S (ZaM (idx s))),.int .i64 (Zbv (idx s):Nat)],.bool (decide (idx s<42))]
theorem Zkt (s:List UInt8) (w:World) (hO:OpTab w) :
  Calls Tryz.prog 253 #[.string (S s)] w fun e w'=>e=.returned (Zqr s)/\Below w.heap.size w w':=by
 have hmf:∀ (fn:Fn) (first cap:Array Value) (w:World),(Instr.makeFunc fn first cap).run Tryz.prog w=.ok (.func fn first cap) w:=fun _ _ _ _=>rfl
 have HO:=Hd hO;clear hO;unfold Zqr;obtain ⟨q,hq⟩:∃ q,q=(if idx s<42 then idx s else 0):=⟨_,rfl⟩
 obtain ⟨d,hd⟩:∃ d,d=decide (idx s<42):=⟨_,rfl⟩
 rw [←hq,←hd];have HQ:=Hd hq;have HD:=Hd hd;clear hq hd;go_enter Tryz.func253,Tryz.ntmps253
 go_wp2_with fail
 have hb0:Below w.heap.size w ((w.alloc (.cells #[.string (S s)] 9)).alloc (.cells #[.string ⟨#[]⟩,.int .i64 0] 217)):=((Yab _ w).alloc (Yac _) _).alloc (by simp) _;have hc0:((w.alloc (.cells #[.string (S s)] 9)).alloc (.cells #[.string ⟨#[]⟩,.int .i64 0] 217)).heap[w.heap.size]? = some (.cells #[.string (S s)] 9 (0,0)):=((Yam (fun _=>False) _).alloc _).heap (heap_alloc_new w _) id;have hr0:((w.alloc (.cells #[.string (S s)] 9)).alloc (.cells #[.string ⟨#[]⟩,.int .i64 0] 217)).heap[w.heap.size+1]? = some (.cells #[.string ⟨#[]⟩,.int .i64 0] 217 (0,0)):=(Zaf (w.alloc _) _ _ (by simp)).trans rfl;generalize hw0:(w.alloc (.cells #[.string (S s)] 9)).alloc (.cells #[.string ⟨#[]⟩,.int .i64 0] 217)=w0 at hb0 hc0 hr0 ⊢;clear hw0;have hfind:=ZoW 262 (.pointer (some ⟨w.heap.size,0,none⟩)) (fun k=>ZaM k == s) (idx s) (ZmD Tryz.func262 (by kernel_rfl) rfl) w0 (HO.o.keep hb0)
  (fun k w' _ hb=>ZkW k _ _ s _ w' (by simp [World.cell?,(Yaf (S:=fun _=>False) hb).heap hc0 id])) (ZmO s) (fun j hj=>Zgm s j hj) (fun h=>ZhR s h)
 rw [←HQ.o,←HD.o] at hfind;refine hfind.mono ?_;clear hfind;rintro e w1 ⟨rfl,hb1⟩;have hr1:w1.heap[w.heap.size+1]? = some (.cells #[.string ⟨#[]⟩,.int .i64 0] 217 (0,0)):=(Yaf (S:=fun _=>False) hb1).heap hr0 id;have hbw:Below w.heap.size w w1:=hb0.trans (hb1.mono hb0.size);clear hb1 hb0 hc0 hr0;have hf0:w1.frozen? ⟨w.heap.size+1,0,none⟩=false:=by simp [World.frozen?,hr1]
 have hf1:w1.frozen? ⟨w.heap.size+1,1,none⟩=false:=by simp [World.frozen?,hr1]
 have hd0:w1.cell? ⟨w.heap.size+1,0,none⟩=some (.string ⟨#[]⟩):=by simp [World.cell?,hr1]
 have hd1:w1.cell? ⟨w.heap.size+1,1,none⟩=some (.int .i64 0):=by simp [World.cell?,hr1]
 have HR:=Hd hr1;clear hr1;go_wp2;have hl:=Zjc (w:=(w1.setCell ⟨w.heap.size+1,0,none⟩ (.string (S (ZaM (idx s))))).setCell ⟨w.heap.size+1,1,none⟩ (.int .i64 (Zbv (idx s):Nat))) (set2 HR.o);refine bodyPost_ret (v:=.tuple #[.int .i64 (q:Nat),.agg #[.string (S (ZaM (idx s))),.int .i64 (Zbv (idx s):Nat)],.bool d]) ?_ rfl ⟨rfl,?_⟩
 ·simp [results,Tryz.results253,asAddr,hl]
 ·exact (hbw.setCell (by simp) _).setCell (by simp) _
def depN (l:List UInt8):Nat:=if Zaj l=true then ZaV l else 0
theorem ZbQ {l:List UInt8} (h:Zaj l=true):depN l=ZaV l:=by unfold depN;rw [YaA h]
theorem Zcz {l:List UInt8} (h:Zaj l=false):depN l=0:=by unfold depN;rw [Yaq (by rw [h];decide)]
theorem Zqe (l:List UInt8):depN l<=3:=by
 unfold depN;split
 ·rename_i h
  unfold Zaj at h;simp at h
  exact h.1
 ·omega
def Off (l:List UInt8) (k:Nat) (r:List UInt8):Prop:=k<=3/\2 * k<=l.length/\r=l.take (l.length - 2 * k)/\ZaV l=ZaV r+k
theorem Zpm (l:List UInt8):Off l 0 l:=⟨by omega,by omega,by simp,by omega⟩
theorem Zpl {l r:List UInt8} {k:Nat} (h:Off l k r) (hk:k<3) (he:Zbt r=true):Off l (k+1) (r.take (r.length - 2)):=by
 obtain ⟨_,h2,h3,h4⟩:=h;have hr:=Zdl he;have hl:r.length=l.length - 2 * k:=by rw [h3,Yaz];omega
 refine ⟨by omega,by omega,?_,by rw [h4,ZcE he];omega⟩;rw [hl,h3,YcA]
 congr 1
 omega
theorem ZnD {l r:List UInt8} {k:Nat} (h:Off l k r) (hs:Zbt r=false\/k=3):Zaj l=(Zas r || Zak r)/\(Zaj l=true->depN l=k):=by
 obtain ⟨h1,h2,h3,h4⟩:=h;cases he:Zbt r with
 | false=>
  have hd:ZaV l=k:=by rw [h4,ZcQ he];omega
  have hb:Zbo l=r:=by unfold Zbo;rw [hd,h3]
  refine ⟨by unfold Zaj;rw [hb,hd,Yar h1,Yax];rfl,fun hr=>by rw [ZbQ hr,hd]⟩
 | true=>
  have hk:k=3:=by rcases hs with hs|hs;(rw [he] at hs;cases hs);exact hs
  have hd:¬ ZaV l<=3:=by rw [h4,ZcE he];omega
  have hr:Zaj l=false:=by unfold Zaj;rw [Yaj hd,YaD]
  have hn:(Zas r || Zak r)=false:=by
   cases hb:(Zas r || Zak r) with
   | false=>rfl
   | true=>
    have:=Zdp (Zd4 (l:=r) hb);rw [he] at this;cases this
  rw [hr,hn];exact ⟨rfl,fun h=>by cases h⟩
theorem ZqA {l r:List UInt8} {k:Nat} (h:Off l k r):r.length<=l.length:=by rw [h.2.2.1,Yaz];omega
def ZqO (l:List UInt8) (w:World) (e:Ending) (w':World):Prop:=e=.returned (.tuple #[.int .i64 (depN l),.bool (Zaj l)])/\Below w.heap.size w w'
theorem ZcS {a b:Nat} {c d:Bool} (h:a=b) (h2:c=d):Ending.returned (.tuple #[.int .i64 (a:Int),.bool c])=.returned (.tuple #[.int .i64 (b:Int),.bool d]):=by rw [h,h2]
theorem Zfn (l:List UInt8) (w:World) (hlim:l.length<=9223372036854775807) :
  Calls Tryz.prog 144 #[.string (S l)] w (ZqO l w):=by
 go_enter Tryz.func144,Tryz.ntmps144;go_wp2
 go_loop [0,4] (fun v0 v4=>∃ (k:Nat) (r:List UInt8),v0=.string (S r)/\v4=.int .i64 k/\Off l k r) (fun _ v4=>3 - (intOf v4).toNat)
 case atStart=>exact ⟨0,l,rfl,rfl,Zpm l⟩
 case round=>
  obtain ⟨k,r,rfl,rfl,hoff⟩:=hrel;have hk3:=hoff.1;have hrl:=ZqA hoff;have HOFF:=Hd hoff;clear hoff;have HS:=Hd (fun w=>ZkD r w (by omega));have HP:=Hd (ZfR r);have HC:=Hd (fun w=>ZbZ r w (by omega));cases he:Zbt r with
  | true=>
   by_cases hlt:k<3
   ·have HT:=Hd (fun w=>Zf2 r w (by omega) he);have HN:=Hd (Zpl HOFF.o hlt he);rw [he] at HS;have hlt2:(k:Int)<3:=by omega
    clear he
    go_wp2_with fail
    refine (HS.o _).mono ?_;rintro e w' ⟨rfl,rfl⟩
    go_wp2_with fail
    refine (HT.o _).mono ?_;rintro e w' ⟨rfl,rfl⟩;go_wp2
    go_round
    case rel=>exact ⟨k+1,_,rfl,by go_num,HN.o⟩
    case measure=>simp [intOf];omega
   ·obtain rfl:k=3:=by omega
    obtain ⟨hr1,hr2⟩:=ZnD HOFF.o (.inr rfl);have hn:(Zas r || Zak r)=false:=by
     cases hb:(Zas r || Zak r) with
     | false=>rfl
     | true=>
      have:=Zdp (Zd4 (l:=r) hb);rw [he] at this;cases this
    rw [hn] at hr1;rw [Ybk] at hn;obtain ⟨hn1,hn2⟩:=hn;rw [hn1] at HP;rw [hn2] at HC;have HR1:=Hd hr1;clear he hr1 hr2 hn1 hn2 HS HOFF
    go_wp2_with fail
    refine (HP.o _).mono ?_;rintro e w' ⟨rfl,rfl⟩
    go_wp2_with fail
    refine (HC.o _).mono ?_;rintro e w' ⟨rfl,hb⟩;go_wp2
    go_ret2
    exact ⟨ZcS (a:=0) (Zcz HR1.o).symm HR1.o.symm,hb⟩
  | false=>
   obtain ⟨hr1,hr2⟩:=ZnD HOFF.o (.inl he);rw [he] at HS;have HR1:=Hd hr1;have HR2:=Hd hr2;clear he hr1 hr2;by_cases hlt:k<3
   ·have hlt2:(k:Int)<3:=by omega
    cases hp:Zas r with
    | true=>
     rw [hp] at HP;rw [hp,Ycq] at HR1;clear hp
     go_wp2_with fail
     refine (HS.o _).mono ?_;rintro e w' ⟨rfl,rfl⟩
     go_wp2_with fail
     refine (HP.o _).mono ?_;rintro e w' ⟨rfl,rfl⟩;go_wp2
     go_ret2
     exact ⟨ZcS (HR2.o HR1.o).symm HR1.o.symm,Yab _ _⟩
    | false=>
     rw [hp] at HP;rw [hp,YaR] at HR1;clear hp;cases hc:Zak r with
     | true=>
      rw [hc] at HC HR1;clear hc
      go_wp2_with fail
      refine (HS.o _).mono ?_;rintro e w' ⟨rfl,rfl⟩
      go_wp2_with fail
      refine (HP.o _).mono ?_;rintro e w' ⟨rfl,rfl⟩
      go_wp2_with fail
      refine (HC.o _).mono ?_;rintro e w' ⟨rfl,hb⟩;go_wp2
      go_ret2
      exact ⟨ZcS (HR2.o HR1.o).symm HR1.o.symm,hb⟩
     | false=>
      rw [hc] at HC HR1;clear hc
      go_wp2_with fail
      refine (HS.o _).mono ?_;rintro e w' ⟨rfl,rfl⟩
      go_wp2_with fail
      refine (HP.o _).mono ?_;rintro e w' ⟨rfl,rfl⟩
      go_wp2_with fail
      refine (HC.o _).mono ?_;rintro e w' ⟨rfl,hb⟩;go_wp2
      go_ret2
      exact ⟨ZcS (a:=0) (Zcz HR1.o).symm HR1.o.symm,hb⟩
   ·obtain rfl:k=3:=by omega
    clear HS;cases hp:Zas r with
    | true=>
     rw [hp] at HP;rw [hp,Ycq] at HR1;clear hp
     go_wp2_with fail
     refine (HP.o _).mono ?_;rintro e w' ⟨rfl,rfl⟩;go_wp2
     go_ret2
     exact ⟨ZcS (HR2.o HR1.o).symm HR1.o.symm,Yab _ _⟩
    | false=>
     rw [hp] at HP;rw [hp,YaR] at HR1;clear hp;cases hc:Zak r with
     | true=>
      rw [hc] at HC HR1;clear hc
      go_wp2_with fail
      refine (HP.o _).mono ?_;rintro e w' ⟨rfl,rfl⟩
      go_wp2_with fail
      refine (HC.o _).mono ?_;rintro e w' ⟨rfl,hb⟩;go_wp2
      go_ret2
      exact ⟨ZcS (HR2.o HR1.o).symm HR1.o.symm,hb⟩
     | false=>
      rw [hc] at HC HR1;clear hc
      go_wp2_with fail
      refine (HP.o _).mono ?_;rintro e w' ⟨rfl,rfl⟩
      go_wp2_with fail
      refine (HC.o _).mono ?_;rintro e w' ⟨rfl,hb⟩;go_wp2
      go_ret2
      exact ⟨ZcS (a:=0) (Zcz HR1.o).symm HR1.o.symm,hb⟩
theorem ZfX (l:List UInt8) (w:World) (hlim:l.length<=9223372036854775807) :
  Calls Tryz.prog 160 #[.string (S l)] w (Said (Zaj l) w):=by
 go_enter Tryz.func160,Tryz.ntmps160
 go_wp2_with fail
 refine (Zfn l w hlim).mono ?_;rintro e w' ⟨rfl,hb⟩;go_wp2;go_ret;exact ⟨rfl,hb⟩
def ZiE (n:Nat) (w:World) (e:Ending) (w':World):Prop:=e=.returned (.int .i64 n)/\Below w.heap.size w w'
theorem Zek (l:List UInt8) (w:World) (hlim:l.length<=9223372036854775807) :
  Calls Tryz.prog 96 #[.string (S l)] w (ZiE (depN l) w):=by
 go_enter Tryz.func96,Tryz.ntmps96
 go_wp2_with fail
 refine (Zfn l w hlim).mono ?_;rintro e w' ⟨rfl,hb⟩;go_wp2;go_ret;exact ⟨rfl,hb⟩
def ZbT (l:List UInt8) (w:World) (e:Ending) (w':World):Prop:=e=.returned (.string (S l))/\Below w.heap.size w w'
def ZqS (l:List UInt8) (w:World) (e:Ending) (w':World):Prop:=
 (if Zaj l=true/\ZaV l<=2 then e=.returned (.tuple #[.string (S (ofL l)),.int .i64 0]) else e=.returned (.tuple #[.string ⟨#[]⟩,.int .i64 30]))/\Below w.heap.size w w'
theorem ZpX (l:List UInt8) (w:World) (hlim:l.length<=9223372036854775807) :
  Calls Tryz.prog 139 #[.string (S l)] w (ZqS l w):=by
 have HD:=Hd (Zfn l w hlim);unfold ZqO at HD;cases hr:Zaj l with
 | false=>
  have HF:=Hd (show ¬ (Zaj l=true/\ZaV l<=2) from fun h=>by rw [hr] at h;cases h.1);rw [hr] at HD;clear hr;go_enter Tryz.func139,Tryz.ntmps139
  go_wp2_with fail
  refine HD.o.mono ?_;rintro e w' ⟨rfl,hb⟩;go_wp2
  go_ret2
  exact ⟨by rw [Yaq HF.o];rfl,hb⟩
 | true=>
  have hd:=ZbQ hr;rw [hr] at HD;by_cases h2:ZaV l<=2
  ·have HF:=Hd (show Zaj l=true/\ZaV l<=2 from ⟨hr,h2⟩);have hne:((depN l:Int) == 3)=false:=by rw [Yah];omega
   have HA:Hid (S l++⟨#[91,93]⟩=S (ofL l)):=Zcx l [91,93];have hsum:(S l).size+2<=9223372036854775807:=by
    have q1:=(ZbH (ZeR hr)).2;rw [Zc3] at q1;rw [ZaB];omega
   clear hr hd h2;generalize depN l=N at *;go_enter Tryz.func139,Tryz.ntmps139
   go_wp2_with fail
   refine HD.o.mono ?_;rintro e w' ⟨rfl,hb⟩;go_wp2
   go_ret2
   exact ⟨by rw [YaA HF.o];rfl,hb⟩
  ·have HF:=Hd (show ¬ (Zaj l=true/\ZaV l<=2) from fun h=>h2 h.2);have hne:depN l=3:=by have:=Zqe l;omega
   rw [hne] at HD;clear hr hd h2 hne;go_enter Tryz.func139,Tryz.ntmps139
   go_wp2_with fail
   refine HD.o.mono ?_;rintro e w' ⟨rfl,hb⟩;go_wp2
   go_ret2
   exact ⟨by rw [Yaq HF.o];rfl,hb⟩
