/- laws -/
import Derived.KernelRfl
import Derived.Laws.BytesArg
import Derived.Lib.ConvBytes
import Derived.Deep.Cut
import Derived.Test.YtggcdinoflchjaaGreatDoorK03
set_option maxRecDepth 100000
set_option maxHeartbeats 16000000
namespace Go.Proofs.YtggcdinoflchjaaGreatDoor
open Go.RowKit
def opTab:List (List UInt8 × Nat):=[
 ([105,110,116],1),
 ([116,114,117,101],0),
 ([102,97,108,115,101],0),
 ([119,111,114,100],2),
 ([110,117,108,108],0),
 ([108,111,97,100],1),
 ([115,116,111,114,101],1),
 ([112,111,112],0),
 ([100,117,112],0),
 ([115,119,97,112],0),
 ([97,100,100],0),
 ([115,117,98],0),
 ([109,117,108],0),
 ([100,105,118],0),
 ([114,101,109],0),
 ([110,101,103],0),
 ([108,101,115,115],0),
 ([115,97,109,101],0),
 ([110,111,116],0),
 ([98,111,116,104],0),
 ([106,111,105,110],0),
 ([115,105,122,101],0),
 ([106,117,109,112],1),
 ([98,114,97,110,99,104],1),
 ([110,101,119],3),
 ([103,101,116],6),
 ([112,117,116],6),
 ([99,97,108,108],6),
 ([97,114,114,97,121],5),
 ([97,116],0),
 ([115,101,116],0),
 ([105,115],4),
 ([99,97,115,116],4),
 ([114,101,116,117,114,110],0),
 ([116,104,114,111,119],0),
 ([111,117,116],0),
 ([101,113,117,97,108],0),
 ([97,110,100],0),
 ([111,114],0),
 ([120,111,114],0),
 ([115,104,108],0),
 ([115,104,114],0)]
def ZaJ (k:Nat):List UInt8:=(opTab.getD k ([],0)).1
def Zbj (k:Nat):Nat:=(opTab.getD k ([],0)).2
def idx (s:List UInt8):Nat:=opTab.findIdx fun x=>x.1 == s
def opCells:List Value:=opTab.flatMap fun x=>[.string (S x.1),.int .i64 (x.2:Nat)]
theorem ZcG:opTab.length=42:=by decide
theorem Zmg (s:List UInt8):idx s<=42:=by
 have h:=List.findIdx_le_length (xs:=opTab) (p:=fun x=>x.1 == s);rw [ZcG] at h;exact h
theorem Zep (k:Nat) (h:k<opTab.length):ZaJ k=opTab[k].1:=by
 unfold ZaJ;rw [List.getD_eq_getElem?_getD,List.getElem?_eq_getElem h];rfl
theorem ZfP (s:List UInt8) (j:Nat) (h:j<idx s):(ZaJ j == s)=false:=by
 have hl:j<opTab.length:=Nat.lt_of_lt_of_le h (by rw [ZcG];exact Zmg s);have h1:=List.not_of_lt_findIdx (p:=fun x:List UInt8 × Nat=>x.1 == s) (xs:=opTab) h;rw [Zep j hl]
 simpa using h1
theorem Zhl (s:List UInt8) (h:idx s<42):(ZaJ (idx s) == s)=true:=by
 have hl:idx s<opTab.length:=by rw [ZcG];exact h
 have h1:=List.findIdx_getElem (p:=fun x:List UInt8 × Nat=>x.1 == s) (xs:=opTab) (w:=hl);rw [Zep _ hl];exact h1
theorem at_end:ZaJ 42=[]/\Zbj 42=0:=by decide
def Za0 (k:Nat):Value:=.agg #[.string (S (ZaJ k)),.int .i64 (Zbj k:Nat)]
theorem Zm3 (w:World):(Instr.index 230 (.agg opCells.toArray) (.int .i64 0)).run Tryz.prog w=.ok (Za0 0) w:=by kernel_rfl
theorem Zm4 (w:World):(Instr.index 230 (.agg opCells.toArray) (.int .i64 1)).run Tryz.prog w=.ok (Za0 1) w:=by kernel_rfl
theorem Zm5 (w:World):(Instr.index 230 (.agg opCells.toArray) (.int .i64 2)).run Tryz.prog w=.ok (Za0 2) w:=by kernel_rfl
theorem Zm6 (w:World):(Instr.index 230 (.agg opCells.toArray) (.int .i64 3)).run Tryz.prog w=.ok (Za0 3) w:=by kernel_rfl
theorem Zm7 (w:World):(Instr.index 230 (.agg opCells.toArray) (.int .i64 4)).run Tryz.prog w=.ok (Za0 4) w:=by kernel_rfl
theorem Zm8 (w:World):(Instr.index 230 (.agg opCells.toArray) (.int .i64 5)).run Tryz.prog w=.ok (Za0 5) w:=by kernel_rfl
theorem Zm9 (w:World):(Instr.index 230 (.agg opCells.toArray) (.int .i64 6)).run Tryz.prog w=.ok (Za0 6) w:=by kernel_rfl
theorem Zna (w:World):(Instr.index 230 (.agg opCells.toArray) (.int .i64 7)).run Tryz.prog w=.ok (Za0 7) w:=by kernel_rfl
theorem Znb (w:World):(Instr.index 230 (.agg opCells.toArray) (.int .i64 8)).run Tryz.prog w=.ok (Za0 8) w:=by kernel_rfl
theorem Znc (w:World):(Instr.index 230 (.agg opCells.toArray) (.int .i64 9)).run Tryz.prog w=.ok (Za0 9) w:=by kernel_rfl
theorem Zkx (w:World):(Instr.index 230 (.agg opCells.toArray) (.int .i64 10)).run Tryz.prog w=.ok (Za0 10) w:=by kernel_rfl
theorem Zky (w:World):(Instr.index 230 (.agg opCells.toArray) (.int .i64 11)).run Tryz.prog w=.ok (Za0 11) w:=by kernel_rfl
theorem Zkz (w:World):(Instr.index 230 (.agg opCells.toArray) (.int .i64 12)).run Tryz.prog w=.ok (Za0 12) w:=by kernel_rfl
theorem ZkA (w:World):(Instr.index 230 (.agg opCells.toArray) (.int .i64 13)).run Tryz.prog w=.ok (Za0 13) w:=by kernel_rfl
theorem ZkB (w:World):(Instr.index 230 (.agg opCells.toArray) (.int .i64 14)).run Tryz.prog w=.ok (Za0 14) w:=by kernel_rfl
theorem ZkC (w:World):(Instr.index 230 (.agg opCells.toArray) (.int .i64 15)).run Tryz.prog w=.ok (Za0 15) w:=by kernel_rfl
theorem ZkD (w:World):(Instr.index 230 (.agg opCells.toArray) (.int .i64 16)).run Tryz.prog w=.ok (Za0 16) w:=by kernel_rfl
theorem ZkE (w:World):(Instr.index 230 (.agg opCells.toArray) (.int .i64 17)).run Tryz.prog w=.ok (Za0 17) w:=by kernel_rfl
theorem ZkF (w:World):(Instr.index 230 (.agg opCells.toArray) (.int .i64 18)).run Tryz.prog w=.ok (Za0 18) w:=by kernel_rfl
theorem ZkG (w:World):(Instr.index 230 (.agg opCells.toArray) (.int .i64 19)).run Tryz.prog w=.ok (Za0 19) w:=by kernel_rfl
theorem ZkH (w:World):(Instr.index 230 (.agg opCells.toArray) (.int .i64 20)).run Tryz.prog w=.ok (Za0 20) w:=by kernel_rfl
theorem ZkI (w:World):(Instr.index 230 (.agg opCells.toArray) (.int .i64 21)).run Tryz.prog w=.ok (Za0 21) w:=by kernel_rfl
theorem ZkJ (w:World):(Instr.index 230 (.agg opCells.toArray) (.int .i64 22)).run Tryz.prog w=.ok (Za0 22) w:=by kernel_rfl
theorem ZkK (w:World):(Instr.index 230 (.agg opCells.toArray) (.int .i64 23)).run Tryz.prog w=.ok (Za0 23) w:=by kernel_rfl
theorem ZkL (w:World):(Instr.index 230 (.agg opCells.toArray) (.int .i64 24)).run Tryz.prog w=.ok (Za0 24) w:=by kernel_rfl
theorem ZkM (w:World):(Instr.index 230 (.agg opCells.toArray) (.int .i64 25)).run Tryz.prog w=.ok (Za0 25) w:=by kernel_rfl
theorem ZkN (w:World):(Instr.index 230 (.agg opCells.toArray) (.int .i64 26)).run Tryz.prog w=.ok (Za0 26) w:=by kernel_rfl
theorem ZkO (w:World):(Instr.index 230 (.agg opCells.toArray) (.int .i64 27)).run Tryz.prog w=.ok (Za0 27) w:=by kernel_rfl
theorem ZkP (w:World):(Instr.index 230 (.agg opCells.toArray) (.int .i64 28)).run Tryz.prog w=.ok (Za0 28) w:=by kernel_rfl
theorem ZkQ (w:World):(Instr.index 230 (.agg opCells.toArray) (.int .i64 29)).run Tryz.prog w=.ok (Za0 29) w:=by kernel_rfl
theorem ZkR (w:World):(Instr.index 230 (.agg opCells.toArray) (.int .i64 30)).run Tryz.prog w=.ok (Za0 30) w:=by kernel_rfl
theorem ZkS (w:World):(Instr.index 230 (.agg opCells.toArray) (.int .i64 31)).run Tryz.prog w=.ok (Za0 31) w:=by kernel_rfl
theorem ZkT (w:World):(Instr.index 230 (.agg opCells.toArray) (.int .i64 32)).run Tryz.prog w=.ok (Za0 32) w:=by kernel_rfl
theorem ZkU (w:World):(Instr.index 230 (.agg opCells.toArray) (.int .i64 33)).run Tryz.prog w=.ok (Za0 33) w:=by kernel_rfl
theorem ZkV (w:World):(Instr.index 230 (.agg opCells.toArray) (.int .i64 34)).run Tryz.prog w=.ok (Za0 34) w:=by kernel_rfl
theorem ZkW (w:World):(Instr.index 230 (.agg opCells.toArray) (.int .i64 35)).run Tryz.prog w=.ok (Za0 35) w:=by kernel_rfl
theorem ZkX (w:World):(Instr.index 230 (.agg opCells.toArray) (.int .i64 36)).run Tryz.prog w=.ok (Za0 36) w:=by kernel_rfl
theorem ZkY (w:World):(Instr.index 230 (.agg opCells.toArray) (.int .i64 37)).run Tryz.prog w=.ok (Za0 37) w:=by kernel_rfl
theorem ZkZ (w:World):(Instr.index 230 (.agg opCells.toArray) (.int .i64 38)).run Tryz.prog w=.ok (Za0 38) w:=by kernel_rfl
theorem Zk0 (w:World):(Instr.index 230 (.agg opCells.toArray) (.int .i64 39)).run Tryz.prog w=.ok (Za0 39) w:=by kernel_rfl
theorem Zk1 (w:World):(Instr.index 230 (.agg opCells.toArray) (.int .i64 40)).run Tryz.prog w=.ok (Za0 40) w:=by kernel_rfl
theorem Zk2 (w:World):(Instr.index 230 (.agg opCells.toArray) (.int .i64 41)).run Tryz.prog w=.ok (Za0 41) w:=by kernel_rfl
theorem ZoT (k:Nat) (hk:k<42) (w:World):(Instr.index 230 (.agg opCells.toArray) (.int .i64 (k:Nat))).run Tryz.prog w=.ok (.agg #[.string (S (ZaJ k)),.int .i64 (Zbj k:Nat)]) w:=
 match k,hk with
 | 0,_=>Zm3 w
 | 1,_=>Zm4 w
 | 2,_=>Zm5 w
 | 3,_=>Zm6 w
 | 4,_=>Zm7 w
 | 5,_=>Zm8 w
 | 6,_=>Zm9 w
 | 7,_=>Zna w
 | 8,_=>Znb w
 | 9,_=>Znc w
 | 10,_=>Zkx w
 | 11,_=>Zky w
 | 12,_=>Zkz w
 | 13,_=>ZkA w
 | 14,_=>ZkB w
 | 15,_=>ZkC w
 | 16,_=>ZkD w
 | 17,_=>ZkE w
 | 18,_=>ZkF w
 | 19,_=>ZkG w
 | 20,_=>ZkH w
 | 21,_=>ZkI w
 | 22,_=>ZkJ w
 | 23,_=>ZkK w
 | 24,_=>ZkL w
 | 25,_=>ZkM w
 | 26,_=>ZkN w
 | 27,_=>ZkO w
 | 28,_=>ZkP w
 | 29,_=>ZkQ w
 | 30,_=>ZkR w
 | 31,_=>ZkS w
 | 32,_=>ZkT w
 | 33,_=>ZkU w
 | 34,_=>ZkV w
 | 35,_=>ZkW w
 | 36,_=>ZkX w
 | 37,_=>ZkY w
 | 38,_=>ZkZ w
 | 39,_=>Zk0 w
 | 40,_=>Zk1 w
 | 41,_=>Zk2 w
 | n+42,h=>absurd h (by omega)
theorem ZjK {a:Addr} {w:World} {v:Value} (h:w.cell? a=some v):∃ b off,a=⟨b,off,none⟩:=by
 obtain ⟨b,off,sp⟩:=a;cases sp with
 | none=>exact ⟨b,off,rfl⟩
 | some q=>
  exfalso
  unfold World.cell? at h;split at h
  ·simp at h
  ·cases h
theorem Zag (w:World) (o:Obj) (b:Nat) (h:b=w.heap.size):(w.alloc o).heap[b]? = some o:=by rw [h];exact heap_alloc_new w o
theorem Zaj {P:Program} {w:World} {ops:Array Oper} {rest:List Oper} {o:Oper} {a:Act} {Q:Exit->Act->World->Prop} (hgd:o.guard=none) (s x:Operand) (t:TypeId)
  (ho:o.op=.call { callee:=.builtin .append,args:=#[s,x],argTypes:=#[t,t] }) (sv xv v':Value) (w':World) (hs:a.eval s=sv) (hx:a.eval x=xv)
  (hrun:(Builtin.append_ #[t,t] o.type #[sv,xv]).run P w=.ok v' w') (h:wpList P ops Q rest (a.put o.dst v') w'):wpList P ops Q (o :: rest) a w:=by
 refine wpList_plain hgd fun K hK=>?_
 unfold Oper.wp;simp only [execOp,ho,resolve,invoke,builtin,Sem.run_bind,Sem.run_pure,Result.andThen_ok,List.map_toArray,List.map_cons,List.map_nil,hs,hx,hrun];exact hK _ _ h
def OpTab (w:World):Prop:=w.rangeAt 2 0 opCells
theorem OpTab.keep {w w':World} (h:OpTab w) (hb:Below w.heap.size w w'):OpTab w':=fun j v hj=>
 (Only.ofBelow (S:=fun _=>False) hb).cell (h j v hj) id
theorem ZqG {w:World} {b:Nat} {x y:Value} {t:TypeId} {fz:Nat × Nat} (h:w.heap[b]? = some (.cells #[x,y] t fz)):w.rangeAt b 0 [x,y]:=by
 intro j v hj
 match j,hj with
 | 0,hj=>simp at hj;subst hj;simp [World.cell?,h]
 | 1,hj=>simp at hj;subst hj;simp [World.cell?,h]
 | j+2,hj=>simp at hj
theorem set2 {w:World} {b:Nat} {x y u v:Value} {t:TypeId} {fz:Nat × Nat} (h:w.heap[b]? = some (.cells #[x,y] t fz)):((w.setCell ⟨b,0,none⟩ u).setCell ⟨b,1,none⟩ v).heap[b]? = some (.cells #[u,v] t fz):=by
 rw [Zb5 (Zb5 h)];rfl
theorem Zos:(Tryz.prog.info? 217).map (·.size)=some 2:=by kernel_rfl
theorem ZiK {w:World} {b:Nat} {x y:Value} {t:TypeId} {fz:Nat × Nat} (h:w.heap[b]? = some (.cells #[x,y] t fz)):(loadVar 217 ⟨b,0,none⟩).run Tryz.prog w=.ok (.agg #[x,y]) w:=
 run_loadVar_mid (P:=Tryz.prog) w b 0 217 [x,y] _ (ZqG h) Tryz.underlying217 rfl Zos
theorem Zot:(Tryz.prog.info? 230).map (·.size)=some opCells.length:=by kernel_rfl
theorem Zom (F:Nat) (cp:Value) (p:Nat->Bool) (N:Nat) (he:∀ args w,(callFunc F args).run Tryz.prog w=.ok (.enter F args) w)
  (w:World) (hO:OpTab w)
  (hF:∀ (k:Nat) (w':World),k<42->Below w.heap.size w w'->Calls Tryz.prog F #[.int .i64 k,.agg #[.string (S (ZaJ k)),.int .i64 (Zbj k:Nat)],cp] w' fun e w''=>e=.returned (.bool (p k))/\Below w'.heap.size w' w'')
  (hN:N<=42) (hlo:∀ j,j<N->p j=false) (hat:N<42->p N=true) :
  Calls Tryz.prog 261 #[.func (.func F) #[] #[cp]] w fun e w'=>e=.returned (.tuple #[.int .i64 (if N<42 then N else 0:Nat),.agg #[.string (S (ZaJ N)),.int .i64 (Zbj N:Nat)],.bool (decide (N<42))])/\Below w.heap.size w w':=by
 have HF:=Hd hF;have HLO:=Hd hlo;have HAT:=Hd hat;have HO:=Hd hO;have HE:=Hd he;have HI:=Hd Zot;clear hF hlo hat hO he;go_enter Tryz.func261,Tryz.ntmps261
 go_upto_region 1 with fail
 refine wp_region_lit ?_;refine wpList_load_mid (by rfl) 230 _ (by rfl) 2 0 (by rfl) opCells _ (HO.out.keep ((Below.refl _ w).alloc (Nat.le_refl _) _)) Tryz.underlying230 (by rfl) HI.out ?_;go_wp2
 go_loopw [8] (fun v8 wr=>∃ k:Nat,k<=N/\v8=.int .i64 k/\wr.heap[w.heap.size]? = some (.cells #[.string ⟨#[]⟩,.int .i64 0] 217 (0,0))/\Below w.heap.size w wr) (fun v8 _=>42 - (intOf v8).toNat)
 case atStart=>exact ⟨0,Nat.zero_le _,rfl,heap_alloc_new w _,(Below.refl _ w).alloc (Nat.le_refl _) _⟩
 case round=>
  obtain ⟨k,hk,rfl,hblk,hbel⟩:=hrel;by_cases hlt:k<42
  ·have hlt':(k:Int)<42:=by omega
   have hk0:(0:Int)<=k:=by omega
   have hix:=ZoT k hlt;have he:=HE.out;have HB:=Hd hblk;clear hblk
   go_wp2_with fail
   have hbA:Below w.heap.size w (wr.alloc (.cells #[.string (S (ZaJ k)),.int .i64 (Zbj k:Nat)] 217)):=hbel.alloc hbel.size _;refine (HF.out k _ hlt hbA).mono ?_;rintro e w1 ⟨rfl,hb1⟩;have hres:w1.heap[w.heap.size]? = some (.cells #[.string ⟨#[]⟩,.int .i64 0] 217 (0,0)):=(Only.ofBelow (S:=fun _=>False) hb1).heap (((Only.refl (fun _=>False) wr).alloc _).heap HB.out id) id;have hnew:w1.heap[wr.heap.size]? = some (.cells #[.string (S (ZaJ k)),.int .i64 (Zbj k:Nat)] 217 (0,0)):=(Only.ofBelow (S:=fun _=>False) hb1).heap (heap_alloc_new wr _) id;have hbw:Below w.heap.size w w1:=hbA.trans (hb1.mono hbA.size);clear he hix hb1 hbA;by_cases hkn:k<N
   ·rw [HLO.out k hkn];have HR:=Hd hres;clear hres hnew;go_wp2
    go_roundw
    case rel=>exact ⟨k+1,by omega,by go_num,HR.out,hbw⟩
    case measure=>simp [intOf];omega
   ·obtain rfl:k=N:=by omega
    rw [HAT.out hlt];have hf0:w1.frozen? ⟨w.heap.size,0,none⟩=false:=by simp [World.frozen?,hres]
    have hf1:w1.frozen? ⟨w.heap.size,1,none⟩=false:=by simp [World.frozen?,hres]
    have hc0:w1.cell? ⟨w.heap.size,0,none⟩=some (.string ⟨#[]⟩):=by simp [World.cell?,hres]
    have hc1:w1.cell? ⟨w.heap.size,1,none⟩=some (.int .i64 0):=by simp [World.cell?,hres]
    have hn0:w1.cell? ⟨wr.heap.size,0,none⟩=some (.string (S (ZaJ k))):=by simp [World.cell?,hnew]
    have hn1:w1.cell? ⟨wr.heap.size,1,none⟩=some (.int .i64 (Zbj k:Nat)):=by simp [World.cell?,hnew]
    have HR:=Hd hres;clear hres hnew
    go_wp2_with go_region
    have hl:=ZiK (w:=((w1.setCell ⟨w.heap.size,0,none⟩ (.string (S (ZaJ k)))).setCell ⟨w.heap.size,1,none⟩ (.int .i64 (Zbj k:Nat))).drew) (set2 HR.out);refine bodyPost_ret (v:=.tuple #[.int .i64 (k:Nat),.agg #[.string (S (ZaJ k)),.int .i64 (Zbj k:Nat)],.bool true]) ?_ rfl ⟨rfl,?_⟩
    ·simp [results,Tryz.results261,asAddr,hl]
    ·exact ((hbw.setCell (by simp) _).setCell (by simp) _).drew
  ·obtain rfl:k=42:=by omega
   obtain rfl:N=42:=by omega
   have hf0:wr.frozen? ⟨w.heap.size,0,none⟩=false:=by simp [World.frozen?,hblk]
   have hf1:wr.frozen? ⟨w.heap.size,1,none⟩=false:=by simp [World.frozen?,hblk]
   have hc0:wr.cell? ⟨w.heap.size,0,none⟩=some (.string ⟨#[]⟩):=by simp [World.cell?,hblk]
   have hc1:wr.cell? ⟨w.heap.size,1,none⟩=some (.int .i64 0):=by simp [World.cell?,hblk]
   have HR:=Hd hblk;clear hblk;go_wp2;have hl:=ZiK (w:=(wr.setCell ⟨w.heap.size,0,none⟩ (.string ⟨#[]⟩)).setCell ⟨w.heap.size,1,none⟩ (.int .i64 0)) (set2 HR.out);refine bodyPost_ret (v:=.tuple #[.int .i64 0,.agg #[.string (S (ZaJ 42)),.int .i64 (Zbj 42:Nat)],.bool false]) ?_ rfl ⟨rfl,?_⟩
   ·rw [at_end.1,at_end.2];simp [results,Tryz.results261,asAddr,hl,S]
   ·exact (hbel.setCell (by simp) _).setCell (by simp) _

theorem Zl5 {f : FuncId} {fn : Func} {c : Code} (hf : Tryz.prog.funcs[f]? = some fn) (hname : (fn.name == "runtime.NumGoroutine") = false) (hb : fn.body = some c) (args : Array Value) (w : World) : (callFunc f args).run Tryz.prog w = .ok (.enter f args) w := by
 have h1 : ¬ (fn.name = "runtime.NumGoroutine") := by simpa using hname
 simp [callFunc,hf,h1,hb,mark]
theorem Zkr (k b:Nat) (a s:List UInt8) (h:Int) (w:World) (hc:w.cell? ⟨b,0,none⟩=some (.string (S s))) :
  Calls Tryz.prog 262 #[.int .i64 k,.agg #[.string (S a),.int .i64 h],.pointer (some ⟨b,0,none⟩)] w fun e w'=>e=.returned (.bool (a == s))/\Below w.heap.size w w':=by
 have hcA:∀ o:Obj,(w.alloc o).cell? ⟨b,0,none⟩=some (.string (S s)):=fun o=>((Only.refl (fun _=>False) w).alloc o).cell hc id
 clear hc;go_enter Tryz.func262,Tryz.ntmps262;go_wp2;go_ret;refine ⟨?_,(Below.refl _ w).alloc (Nat.le_refl _) _⟩;show Ending.returned (.bool ((S a).toList == (S s).toList))=_
 rw [Zae,Zae]
def ZpU (s:List UInt8):Value:=.tuple #[.int .i64 (if idx s<42 then idx s else 0:Nat),.agg #[.string (S (ZaJ (idx s))),.int .i64 (Zbj (idx s):Nat)],.bool (decide (idx s<42))]
theorem ZjZ (s:List UInt8) (w:World) (hO:OpTab w) :
  Calls Tryz.prog 253 #[.string (S s)] w fun e w'=>e=.returned (ZpU s)/\Below w.heap.size w w':=by
 have hmf:∀ (fn:Fn) (first cap:Array Value) (w:World),(Instr.makeFunc fn first cap).run Tryz.prog w=.ok (.func fn first cap) w:=fun _ _ _ _=>rfl
 have HO:=Hd hO;clear hO;unfold ZpU;obtain ⟨q,hq⟩:∃ q,q=(if idx s<42 then idx s else 0):=⟨_,rfl⟩
 obtain ⟨d,hd⟩:∃ d,d=decide (idx s<42):=⟨_,rfl⟩
 rw [←hq,←hd];have HQ:=Hd hq;have HD:=Hd hd;clear hq hd;go_enter Tryz.func253,Tryz.ntmps253
 go_wp2_with fail
 have hb0:Below w.heap.size w ((w.alloc (.cells #[.string (S s)] 9)).alloc (.cells #[.string ⟨#[]⟩,.int .i64 0] 217)):=((Below.refl _ w).alloc (Nat.le_refl _) _).alloc (by simp) _;have hc0:((w.alloc (.cells #[.string (S s)] 9)).alloc (.cells #[.string ⟨#[]⟩,.int .i64 0] 217)).heap[w.heap.size]? = some (.cells #[.string (S s)] 9 (0,0)):=((Only.refl (fun _=>False) _).alloc _).heap (heap_alloc_new w _) id;have hr0:((w.alloc (.cells #[.string (S s)] 9)).alloc (.cells #[.string ⟨#[]⟩,.int .i64 0] 217)).heap[w.heap.size+1]? = some (.cells #[.string ⟨#[]⟩,.int .i64 0] 217 (0,0)):=(Zag (w.alloc _) _ _ (by simp)).trans rfl;generalize hw0:(w.alloc (.cells #[.string (S s)] 9)).alloc (.cells #[.string ⟨#[]⟩,.int .i64 0] 217)=w0 at hb0 hc0 hr0 ⊢;clear hw0;have hfind:=Zom 262 (.pointer (some ⟨w.heap.size,0,none⟩)) (fun k=>ZaJ k == s) (idx s) (Zl5 Tryz.func262 (by kernel_rfl) rfl) w0 (HO.out.keep hb0)
  (fun k w' _ hb=>Zkr k _ _ s _ w' (by simp [World.cell?,(Only.ofBelow (S:=fun _=>False) hb).heap hc0 id])) (Zmg s) (fun j hj=>ZfP s j hj) (fun h=>Zhl s h)
 rw [←HQ.out,←HD.out] at hfind;refine hfind.mono ?_;clear hfind;rintro e w1 ⟨rfl,hb1⟩;have hr1:w1.heap[w.heap.size+1]? = some (.cells #[.string ⟨#[]⟩,.int .i64 0] 217 (0,0)):=(Only.ofBelow (S:=fun _=>False) hb1).heap hr0 id;have hbw:Below w.heap.size w w1:=hb0.trans (hb1.mono hb0.size);clear hb1 hb0 hc0 hr0;have hf0:w1.frozen? ⟨w.heap.size+1,0,none⟩=false:=by simp [World.frozen?,hr1]
 have hf1:w1.frozen? ⟨w.heap.size+1,1,none⟩=false:=by simp [World.frozen?,hr1]
 have hd0:w1.cell? ⟨w.heap.size+1,0,none⟩=some (.string ⟨#[]⟩):=by simp [World.cell?,hr1]
 have hd1:w1.cell? ⟨w.heap.size+1,1,none⟩=some (.int .i64 0):=by simp [World.cell?,hr1]
 have HR:=Hd hr1;clear hr1;go_wp2;have hl:=ZiK (w:=(w1.setCell ⟨w.heap.size+1,0,none⟩ (.string (S (ZaJ (idx s))))).setCell ⟨w.heap.size+1,1,none⟩ (.int .i64 (Zbj (idx s):Nat))) (set2 HR.out);refine bodyPost_ret (v:=.tuple #[.int .i64 (q:Nat),.agg #[.string (S (ZaJ (idx s))),.int .i64 (Zbj (idx s):Nat)],.bool d]) ?_ rfl ⟨rfl,?_⟩
 ·simp [results,Tryz.results253,asAddr,hl]
 ·exact (hbw.setCell (by simp) _).setCell (by simp) _
def depN (l:List UInt8):Nat:=if Zak l=true then ZaO l else 0
theorem ZbD {l:List UInt8} (h:Zak l=true):depN l=ZaO l:=by unfold depN;rw [if_pos h]
theorem Zdh {l:List UInt8} (h:Zak l=false):depN l=0:=by unfold depN;rw [if_neg (by rw [h];decide)]
theorem ZpG (l:List UInt8):depN l<=3:=by
 unfold depN;split
 ·rename_i h
  unfold Zak at h;simp at h
  exact h.1
 ·omega
def Off (l:List UInt8) (k:Nat) (r:List UInt8):Prop:=k<=3/\2 * k<=l.length/\r=l.take (l.length - 2 * k)/\ZaO l=ZaO r+k
theorem ZoN (l:List UInt8):Off l 0 l:=⟨by omega,by omega,by simp,by omega⟩
theorem ZoM {l r:List UInt8} {k:Nat} (h:Off l k r) (hk:k<3) (he:Zbh r=true):Off l (k+1) (r.take (r.length - 2)):=by
 obtain ⟨_,h2,h3,h4⟩:=h;have hr:=Zc5 he;have hl:r.length=l.length - 2 * k:=by rw [h3,List.length_take];omega
 refine ⟨by omega,by omega,?_,by rw [h4,Zco he];omega⟩;rw [hl,h3,List.take_take]
 congr 1
 omega
theorem Zm0 {l r:List UInt8} {k:Nat} (h:Off l k r) (hs:Zbh r=false\/k=3):Zak l=(ZaA r || Zal r)/\(Zak l=true->depN l=k):=by
 obtain ⟨h1,h2,h3,h4⟩:=h;cases he:Zbh r with
 | false=>
  have hd:ZaO l=k:=by rw [h4,Zcz he];omega
  have hb:Zbc l=r:=by unfold Zbc;rw [hd,h3]
  refine ⟨by unfold Zak;rw [hb,hd,decide_eq_true h1,Bool.true_and];rfl,fun hr=>by rw [ZbD hr,hd]⟩
 | true=>
  have hk:k=3:=by rcases hs with hs|hs;(rw [he] at hs;cases hs);exact hs
  have hd:¬ ZaO l<=3:=by rw [h4,Zco he];omega
  have hr:Zak l=false:=by unfold Zak;rw [decide_eq_false hd,Bool.false_and]
  have hn:(ZaA r || Zal r)=false:=by
   cases hb:(ZaA r || Zal r) with
   | false=>rfl
   | true=>
    have:=Zc9 (ZdK (l:=r) hb);rw [he] at this;cases this
  rw [hr,hn];exact ⟨rfl,fun h=>by cases h⟩
theorem Zp2 {l r:List UInt8} {k:Nat} (h:Off l k r):r.length<=l.length:=by rw [h.2.2.1,List.length_take];omega
def Zqg (l:List UInt8) (w:World) (e:Ending) (w':World):Prop:=e=.returned (.tuple #[.int .i64 (depN l),.bool (Zak l)])/\Below w.heap.size w w'
theorem ZcB {a b:Nat} {c d:Bool} (h:a=b) (h2:c=d):Ending.returned (.tuple #[.int .i64 (a:Int),.bool c])=.returned (.tuple #[.int .i64 (b:Int),.bool d]):=by rw [h,h2]
theorem ZeU (l:List UInt8) (w:World) (hlim:l.length<=9223372036854775807) :
  Calls Tryz.prog 144 #[.string (S l)] w (Zqg l w):=by
 go_enter Tryz.func144,Tryz.ntmps144;go_wp2
 go_loop [0,4] (fun v0 v4=>∃ (k:Nat) (r:List UInt8),v0=.string (S r)/\v4=.int .i64 k/\Off l k r) (fun _ v4=>3 - (intOf v4).toNat)
 case atStart=>exact ⟨0,l,rfl,rfl,ZoN l⟩
 case round=>
  obtain ⟨k,r,rfl,rfl,hoff⟩:=hrel;have hk3:=hoff.1;have hrl:=Zp2 hoff;have HOFF:=Hd hoff;clear hoff;have HS:=Hd (fun w=>Zj9 r w (by omega));have HP:=Hd (Zfp r);have HC:=Hd (fun w=>ZbK r w (by omega));cases he:Zbh r with
  | true=>
   by_cases hlt:k<3
   ·have HT:=Hd (fun w=>Zfv r w (by omega) he);have HN:=Hd (ZoM HOFF.out hlt he);rw [he] at HS;have hlt2:(k:Int)<3:=by omega
    clear he
    go_wp2_with fail
    refine (HS.out _).mono ?_;rintro e w' ⟨rfl,rfl⟩
    go_wp2_with fail
    refine (HT.out _).mono ?_;rintro e w' ⟨rfl,rfl⟩;go_wp2
    go_round
    case rel=>exact ⟨k+1,_,rfl,by go_num,HN.out⟩
    case measure=>simp [intOf];omega
   ·obtain rfl:k=3:=by omega
    obtain ⟨hr1,hr2⟩:=Zm0 HOFF.out (.inr rfl);have hn:(ZaA r || Zal r)=false:=by
     cases hb:(ZaA r || Zal r) with
     | false=>rfl
     | true=>
      have:=Zc9 (ZdK (l:=r) hb);rw [he] at this;cases this
    rw [hn] at hr1;rw [Bool.or_eq_false_iff] at hn;obtain ⟨hn1,hn2⟩:=hn;rw [hn1] at HP;rw [hn2] at HC;have HR1:=Hd hr1;clear he hr1 hr2 hn1 hn2 HS HOFF
    go_wp2_with fail
    refine (HP.out _).mono ?_;rintro e w' ⟨rfl,rfl⟩
    go_wp2_with fail
    refine (HC.out _).mono ?_;rintro e w' ⟨rfl,hb⟩;go_wp2
    go_ret2
    exact ⟨ZcB (a:=0) (Zdh HR1.out).symm HR1.out.symm,hb⟩
  | false=>
   obtain ⟨hr1,hr2⟩:=Zm0 HOFF.out (.inl he);rw [he] at HS;have HR1:=Hd hr1;have HR2:=Hd hr2;clear he hr1 hr2;by_cases hlt:k<3
   ·have hlt2:(k:Int)<3:=by omega
    cases hp:ZaA r with
    | true=>
     rw [hp] at HP;rw [hp,Bool.true_or] at HR1;clear hp
     go_wp2_with fail
     refine (HS.out _).mono ?_;rintro e w' ⟨rfl,rfl⟩
     go_wp2_with fail
     refine (HP.out _).mono ?_;rintro e w' ⟨rfl,rfl⟩;go_wp2
     go_ret2
     exact ⟨ZcB (HR2.out HR1.out).symm HR1.out.symm,Below.refl _ _⟩
    | false=>
     rw [hp] at HP;rw [hp,Bool.false_or] at HR1;clear hp;cases hc:Zal r with
     | true=>
      rw [hc] at HC HR1;clear hc
      go_wp2_with fail
      refine (HS.out _).mono ?_;rintro e w' ⟨rfl,rfl⟩
      go_wp2_with fail
      refine (HP.out _).mono ?_;rintro e w' ⟨rfl,rfl⟩
      go_wp2_with fail
      refine (HC.out _).mono ?_;rintro e w' ⟨rfl,hb⟩;go_wp2
      go_ret2
      exact ⟨ZcB (HR2.out HR1.out).symm HR1.out.symm,hb⟩
     | false=>
      rw [hc] at HC HR1;clear hc
      go_wp2_with fail
      refine (HS.out _).mono ?_;rintro e w' ⟨rfl,rfl⟩
      go_wp2_with fail
      refine (HP.out _).mono ?_;rintro e w' ⟨rfl,rfl⟩
      go_wp2_with fail
      refine (HC.out _).mono ?_;rintro e w' ⟨rfl,hb⟩;go_wp2
      go_ret2
      exact ⟨ZcB (a:=0) (Zdh HR1.out).symm HR1.out.symm,hb⟩
   ·obtain rfl:k=3:=by omega
    clear HS;cases hp:ZaA r with
    | true=>
     rw [hp] at HP;rw [hp,Bool.true_or] at HR1;clear hp
     go_wp2_with fail
     refine (HP.out _).mono ?_;rintro e w' ⟨rfl,rfl⟩;go_wp2
     go_ret2
     exact ⟨ZcB (HR2.out HR1.out).symm HR1.out.symm,Below.refl _ _⟩
    | false=>
     rw [hp] at HP;rw [hp,Bool.false_or] at HR1;clear hp;cases hc:Zal r with
     | true=>
      rw [hc] at HC HR1;clear hc
      go_wp2_with fail
      refine (HP.out _).mono ?_;rintro e w' ⟨rfl,rfl⟩
      go_wp2_with fail
      refine (HC.out _).mono ?_;rintro e w' ⟨rfl,hb⟩;go_wp2
      go_ret2
      exact ⟨ZcB (HR2.out HR1.out).symm HR1.out.symm,hb⟩
     | false=>
      rw [hc] at HC HR1;clear hc
      go_wp2_with fail
      refine (HP.out _).mono ?_;rintro e w' ⟨rfl,rfl⟩
      go_wp2_with fail
      refine (HC.out _).mono ?_;rintro e w' ⟨rfl,hb⟩;go_wp2
      go_ret2
      exact ⟨ZcB (a:=0) (Zdh HR1.out).symm HR1.out.symm,hb⟩
theorem Zfs (l:List UInt8) (w:World) (hlim:l.length<=9223372036854775807) :
  Calls Tryz.prog 160 #[.string (S l)] w (Said (Zak l) w):=by
 go_enter Tryz.func160,Tryz.ntmps160
 go_wp2_with fail
 refine (ZeU l w hlim).mono ?_;rintro e w' ⟨rfl,hb⟩;go_wp2;go_ret;exact ⟨rfl,hb⟩
def Zia (n:Nat) (w:World) (e:Ending) (w':World):Prop:=e=.returned (.int .i64 n)/\Below w.heap.size w w'
theorem Zd2 (l:List UInt8) (w:World) (hlim:l.length<=9223372036854775807) :
  Calls Tryz.prog 96 #[.string (S l)] w (Zia (depN l) w):=by
 go_enter Tryz.func96,Tryz.ntmps96
 go_wp2_with fail
 refine (ZeU l w hlim).mono ?_;rintro e w' ⟨rfl,hb⟩;go_wp2;go_ret;exact ⟨rfl,hb⟩
def Zca (l:List UInt8) (w:World) (e:Ending) (w':World):Prop:=e=.returned (.string (S l))/\Below w.heap.size w w'
def Zqk (l:List UInt8) (w:World) (e:Ending) (w':World):Prop:=
 (if Zak l=true/\ZaO l<=2 then e=.returned (.tuple #[.string (S (ofL l)),.int .i64 0]) else e=.returned (.tuple #[.string ⟨#[]⟩,.int .i64 30]))/\Below w.heap.size w w'
theorem Zpp (l:List UInt8) (w:World) (hlim:l.length<=9223372036854775807) :
  Calls Tryz.prog 139 #[.string (S l)] w (Zqk l w):=by
 have HD:=Hd (ZeU l w hlim);unfold Zqg at HD;cases hr:Zak l with
 | false=>
  have HF:=Hd (show ¬ (Zak l=true/\ZaO l<=2) from fun h=>by rw [hr] at h;cases h.1);rw [hr] at HD;clear hr;go_enter Tryz.func139,Tryz.ntmps139
  go_wp2_with fail
  refine HD.out.mono ?_;rintro e w' ⟨rfl,hb⟩;go_wp2
  go_ret2
  exact ⟨by rw [if_neg HF.out];rfl,hb⟩
 | true=>
  have hd:=ZbD hr;rw [hr] at HD;by_cases h2:ZaO l<=2
  ·have HF:=Hd (show Zak l=true/\ZaO l<=2 from ⟨hr,h2⟩);have hne:((depN l:Int) == 3)=false:=by rw [beq_eq_false_iff_ne];omega
   have HA:Hid (S l++⟨#[91,93]⟩=S (ofL l)):=Zci l [91,93];have hsum:(S l).size+2<=9223372036854775807:=by
    have q1:=(Zbt (Zet hr)).2;rw [ZcN] at q1;rw [Zaz];omega
   clear hr hd h2;generalize depN l=N at *;go_enter Tryz.func139,Tryz.ntmps139
   go_wp2_with fail
   refine HD.out.mono ?_;rintro e w' ⟨rfl,hb⟩;go_wp2
   go_ret2
   exact ⟨by rw [if_pos HF.out];rfl,hb⟩
  ·have HF:=Hd (show ¬ (Zak l=true/\ZaO l<=2) from fun h=>h2 h.2);have hne:depN l=3:=by have:=ZpG l;omega
   rw [hne] at HD;clear hr hd h2 hne;go_enter Tryz.func139,Tryz.ntmps139
   go_wp2_with fail
   refine HD.out.mono ?_;rintro e w' ⟨rfl,hb⟩;go_wp2
   go_ret2
   exact ⟨by rw [if_neg HF.out];rfl,hb⟩
