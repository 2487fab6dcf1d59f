/- laws -/
import Derived.Test.YtegljjbclladdaaGreatDoorK03
import Derived.Deep.Cut
import Derived.Lib.ConvBytes
set_option maxRecDepth 100000
set_option maxHeartbeats 16000000
namespace Go.Proofs.YtegljjbclladdaaGreatDoor
open Go.RowKit Tryz
def opTab:List (List UInt8×Nat):=[
 ([105,110,116],1),
 ([116,114,117,101],0),
 ([102,97,108,115,101],0),
 ([119,111,114,100],2),
 ([110,117,108,108],0),
 ([108,111,97,100],1),
 ([115,116,111,114,101],1),
 ([112,111,112],0),
 ([100,117,112],0),
 ([115,119,97,112],0),
 ([97,100,100],0),
 ([115,117,98],0),
 ([109,117,108],0),
 ([100,105,118],0),
 ([114,101,109],0),
 ([110,101,103],0),
 ([108,101,115,115],0),
 ([115,97,109,101],0),
 ([110,111,116],0),
 ([98,111,116,104],0),
 ([106,111,105,110],0),
 ([115,105,122,101],0),
 ([106,117,109,112],1),
 ([98,114,97,110,99,104],1),
 ([110,101,119],3),
 ([103,101,116],6),
 ([112,117,116],6),
 ([99,97,108,108],6),
 ([97,114,114,97,121],5),
 ([97,116],0),
 ([115,101,116],0),
 ([105,115],4),
 ([99,97,115,116],4),
 ([114,101,116,117,114,110],0),
 ([116,104,114,111,119],0),
 ([111,117,116],0),
 ([101,113,117,97,108],0),
 ([97,110,100],0),
 ([111,114],0),
 ([120,111,114],0),
 ([115,104,108],0),
 ([115,104,114],0)]
def ZaB (k:Nat):List UInt8:=(opTab.getD k ([],0)).1
def Zbz (k:Nat):Nat:=(opTab.getD k ([],0)).2
def idx (s:List UInt8):Nat:=opTab.findIdx fun x=>x.1==s
def opCells:List Value:=opTab.flatMap fun x=>[.string (S x.1),.int .i64 (x.2:Nat)]
theorem ZcX:opTab.length=42:=by decide
theorem Zoe (s:List UInt8):idx s<=42:=by
 have a:=List.findIdx_le_length (xs:=opTab) (p:=fun x=>x.1==s);rw[ZcX]at a;exact a
theorem Ze6 (k:Nat)(a:k<opTab.length):ZaB k=opTab[k].1:=by
 unfold ZaB;rw[Yap,Yaa a];rfl
theorem ZgV (s:List UInt8)(a:Nat)(d:a<idx s):(ZaB a==s)=false:=by
 have c:a<opTab.length:=Ya7 d (by rw[ZcX];exact Zoe s);have b:=List.not_of_lt_findIdx (p:=fun x:List UInt8×Nat=>x.1==s) (xs:=opTab) d;rw[Ze6 a c];simpa using b
theorem Zf1 (s:List UInt8)(c:idx s<42):(ZaB (idx s)==s)=true:=by
 have a:idx s<opTab.length:=by rw[ZcX];exact c
 have b:=YbY (p:=fun x:List UInt8×Nat=>x.1==s) (xs:=opTab) (w:=a);rw[Ze6 _ a];exact b
theorem at_end:ZaB 42=[]/\Zbz 42=0:=by decide
def Za8 (k:Nat):Value:=.agg #[.string (S (ZaB k)),.int .i64 (Zbz k:Nat)]
theorem Zo6 (w:World):(Instr.index 218 (.agg opCells.toArray) (.int .i64 0)).run prog w=.ok (Za8 0) w:=by kernel_rfl
theorem Zo7 (w:World):(Instr.index 218 (.agg opCells.toArray) (.int .i64 1)).run prog w=.ok (Za8 1) w:=by kernel_rfl
theorem Zo8 (w:World):(Instr.index 218 (.agg opCells.toArray) (.int .i64 2)).run prog w=.ok (Za8 2) w:=by kernel_rfl
theorem Zo9 (w:World):(Instr.index 218 (.agg opCells.toArray) (.int .i64 3)).run prog w=.ok (Za8 3) w:=by kernel_rfl
theorem Zpa (w:World):(Instr.index 218 (.agg opCells.toArray) (.int .i64 4)).run prog w=.ok (Za8 4) w:=by kernel_rfl
theorem Zpb (w:World):(Instr.index 218 (.agg opCells.toArray) (.int .i64 5)).run prog w=.ok (Za8 5) w:=by kernel_rfl
theorem Zpc (w:World):(Instr.index 218 (.agg opCells.toArray) (.int .i64 6)).run prog w=.ok (Za8 6) w:=by kernel_rfl
theorem Zpd (w:World):(Instr.index 218 (.agg opCells.toArray) (.int .i64 7)).run prog w=.ok (Za8 7) w:=by kernel_rfl
theorem Zpe (w:World):(Instr.index 218 (.agg opCells.toArray) (.int .i64 8)).run prog w=.ok (Za8 8) w:=by kernel_rfl
theorem Zpf (w:World):(Instr.index 218 (.agg opCells.toArray) (.int .i64 9)).run prog w=.ok (Za8 9) w:=by kernel_rfl
theorem Zmf (w:World):(Instr.index 218 (.agg opCells.toArray) (.int .i64 10)).run prog w=.ok (Za8 10) w:=by kernel_rfl
theorem Zmg (w:World):(Instr.index 218 (.agg opCells.toArray) (.int .i64 11)).run prog w=.ok (Za8 11) w:=by kernel_rfl
theorem Zmh (w:World):(Instr.index 218 (.agg opCells.toArray) (.int .i64 12)).run prog w=.ok (Za8 12) w:=by kernel_rfl
theorem Zmi (w:World):(Instr.index 218 (.agg opCells.toArray) (.int .i64 13)).run prog w=.ok (Za8 13) w:=by kernel_rfl
theorem Zmj (w:World):(Instr.index 218 (.agg opCells.toArray) (.int .i64 14)).run prog w=.ok (Za8 14) w:=by kernel_rfl
theorem Zmk (w:World):(Instr.index 218 (.agg opCells.toArray) (.int .i64 15)).run prog w=.ok (Za8 15) w:=by kernel_rfl
theorem Zml (w:World):(Instr.index 218 (.agg opCells.toArray) (.int .i64 16)).run prog w=.ok (Za8 16) w:=by kernel_rfl
theorem Zmm (w:World):(Instr.index 218 (.agg opCells.toArray) (.int .i64 17)).run prog w=.ok (Za8 17) w:=by kernel_rfl
theorem Zmn (w:World):(Instr.index 218 (.agg opCells.toArray) (.int .i64 18)).run prog w=.ok (Za8 18) w:=by kernel_rfl
theorem Zmo (w:World):(Instr.index 218 (.agg opCells.toArray) (.int .i64 19)).run prog w=.ok (Za8 19) w:=by kernel_rfl
theorem Zmp (w:World):(Instr.index 218 (.agg opCells.toArray) (.int .i64 20)).run prog w=.ok (Za8 20) w:=by kernel_rfl
theorem Zmq (w:World):(Instr.index 218 (.agg opCells.toArray) (.int .i64 21)).run prog w=.ok (Za8 21) w:=by kernel_rfl
theorem Zmr (w:World):(Instr.index 218 (.agg opCells.toArray) (.int .i64 22)).run prog w=.ok (Za8 22) w:=by kernel_rfl
theorem Zms (w:World):(Instr.index 218 (.agg opCells.toArray) (.int .i64 23)).run prog w=.ok (Za8 23) w:=by kernel_rfl
theorem Zmt (w:World):(Instr.index 218 (.agg opCells.toArray) (.int .i64 24)).run prog w=.ok (Za8 24) w:=by kernel_rfl
theorem Zmu (w:World):(Instr.index 218 (.agg opCells.toArray) (.int .i64 25)).run prog w=.ok (Za8 25) w:=by kernel_rfl
theorem Zmv (w:World):(Instr.index 218 (.agg opCells.toArray) (.int .i64 26)).run prog w=.ok (Za8 26) w:=by kernel_rfl
theorem Zmw (w:World):(Instr.index 218 (.agg opCells.toArray) (.int .i64 27)).run prog w=.ok (Za8 27) w:=by kernel_rfl
theorem Zmx (w:World):(Instr.index 218 (.agg opCells.toArray) (.int .i64 28)).run prog w=.ok (Za8 28) w:=by kernel_rfl
theorem Zmy (w:World):(Instr.index 218 (.agg opCells.toArray) (.int .i64 29)).run prog w=.ok (Za8 29) w:=by kernel_rfl
theorem Zmz (w:World):(Instr.index 218 (.agg opCells.toArray) (.int .i64 30)).run prog w=.ok (Za8 30) w:=by kernel_rfl
theorem ZmA (w:World):(Instr.index 218 (.agg opCells.toArray) (.int .i64 31)).run prog w=.ok (Za8 31) w:=by kernel_rfl
theorem ZmB (w:World):(Instr.index 218 (.agg opCells.toArray) (.int .i64 32)).run prog w=.ok (Za8 32) w:=by kernel_rfl
theorem ZmC (w:World):(Instr.index 218 (.agg opCells.toArray) (.int .i64 33)).run prog w=.ok (Za8 33) w:=by kernel_rfl
theorem ZmD (w:World):(Instr.index 218 (.agg opCells.toArray) (.int .i64 34)).run prog w=.ok (Za8 34) w:=by kernel_rfl
theorem ZmE (w:World):(Instr.index 218 (.agg opCells.toArray) (.int .i64 35)).run prog w=.ok (Za8 35) w:=by kernel_rfl
theorem ZmF (w:World):(Instr.index 218 (.agg opCells.toArray) (.int .i64 36)).run prog w=.ok (Za8 36) w:=by kernel_rfl
theorem ZmG (w:World):(Instr.index 218 (.agg opCells.toArray) (.int .i64 37)).run prog w=.ok (Za8 37) w:=by kernel_rfl
theorem ZmH (w:World):(Instr.index 218 (.agg opCells.toArray) (.int .i64 38)).run prog w=.ok (Za8 38) w:=by kernel_rfl
theorem ZmI (w:World):(Instr.index 218 (.agg opCells.toArray) (.int .i64 39)).run prog w=.ok (Za8 39) w:=by kernel_rfl
theorem ZmJ (w:World):(Instr.index 218 (.agg opCells.toArray) (.int .i64 40)).run prog w=.ok (Za8 40) w:=by kernel_rfl
theorem ZmK (w:World):(Instr.index 218 (.agg opCells.toArray) (.int .i64 41)).run prog w=.ok (Za8 41) w:=by kernel_rfl
theorem Zq9 (k:Nat)(a:k<42)(w:World):(Instr.index 218 (.agg opCells.toArray) (.int .i64 (k:Nat))).run prog w=.ok (.agg #[.string (S (ZaB k)),.int .i64 (Zbz k:Nat)]) w:=
 match k,a with
 |0,_=>Zo6 w
 |1,_=>Zo7 w
 |2,_=>Zo8 w
 |3,_=>Zo9 w
 |4,_=>Zpa w
 |5,_=>Zpb w
 |6,_=>Zpc w
 |7,_=>Zpd w
 |8,_=>Zpe w
 |9,_=>Zpf w
 |10,_=>Zmf w
 |11,_=>Zmg w
 |12,_=>Zmh w
 |13,_=>Zmi w
 |14,_=>Zmj w
 |15,_=>Zmk w
 |16,_=>Zml w
 |17,_=>Zmm w
 |18,_=>Zmn w
 |19,_=>Zmo w
 |20,_=>Zmp w
 |21,_=>Zmq w
 |22,_=>Zmr w
 |23,_=>Zms w
 |24,_=>Zmt w
 |25,_=>Zmu w
 |26,_=>Zmv w
 |27,_=>Zmw w
 |28,_=>Zmx w
 |29,_=>Zmy w
 |30,_=>Zmz w
 |31,_=>ZmA w
 |32,_=>ZmB w
 |33,_=>ZmC w
 |34,_=>ZmD w
 |35,_=>ZmE w
 |36,_=>ZmF w
 |37,_=>ZmG w
 |38,_=>ZmH w
 |39,_=>ZmI w
 |40,_=>ZmJ w
 |41,_=>ZmK w
 |n+42,b=>absurd b (by omega)
theorem Zlq {a:Addr}{w:World}{v:Value}(d:w.cell? a=some v):∃b c,a=⟨b,c,none⟩:=by
 obtain⟨b,c,f⟩:=a;cases f with
 |none=>exact⟨b,c,rfl⟩
 |some g=>
  exfalso;unfold World.cell? at d;split at d
  ·simp at d
  ·cases d
theorem Zam (w:World)(o:Obj)(b:Nat)(a:b=w.heap.size):(w.alloc o).heap[b]?=some o:=by rw[a];exact heap_alloc_new w o
theorem Zak {P:Program}{w:World}{b:Array Oper}{rest:List Oper}{o:Oper}{a:Act}{l:Exit->Act->World->Prop}(g:o.guard=none)(s x:Operand)(t:TypeId)
  (j:o.op=.call { callee:=.builtin .append,args:=#[s,x],argTypes:=#[t,t] })(sv d f:Value)(w':World)(i:a.eval s=sv)(h:a.eval x=d)
  (c:(Builtin.append_ #[t,t] o.type #[sv,d]).run P w=.ok f w')(m:wpList P b l rest (a.put o.dst f) w'):wpList P b l (o::rest) a w:=by
 refine wpList_plain g fun n k=>?_;unfold Oper.wp;simp only[execOp,j,resolve,invoke,builtin,Sem.run_bind,Sem.run_pure,Result.andThen_ok,List.map_toArray,YbI,Ycu,i,h,c];exact k _ _ m
def OpTab (w:World):Prop:=w.rangeAt 2 0 opCells
theorem OpTab.keep {w w':World}(d:OpTab w)(a:Below w.heap.size w w'):OpTab w':=fun c v b=>
 (Yae (S:=fun _=>False) a).cell (d c v b) id
theorem Zto {w:World}{b:Nat}{x d:Value}{t:TypeId}{a:Nat×Nat}(c:w.heap[b]?=some (.cells #[x,d] t a)):w.rangeAt b 0 [x,d]:=by
 intro j v hj
 match j,hj with
 |0,hj=>simp at hj;subst hj;simp[World.cell?,c]
 |1,hj=>simp at hj;subst hj;simp[World.cell?,c]
 |j+2,hj=>simp at hj
theorem set2 {w:World}{b:Nat}{x d u v:Value}{t:TypeId}{a:Nat×Nat}(c:w.heap[b]?=some (.cells #[x,d] t a)):((w.setCell ⟨b,0,none⟩ u).setCell ⟨b,1,none⟩ v).heap[b]?=some (.cells #[u,v] t a):=by
 rw[Zcf (Zcf c)];rfl
theorem ZqF:(prog.info? 205).map (·.size)=some 2:=by kernel_rfl
theorem Zj5 {w:World}{b:Nat}{x c:Value}{t:TypeId}{a:Nat×Nat}(d:w.heap[b]?=some (.cells #[x,c] t a)):(loadVar 205 ⟨b,0,none⟩).run prog w=.ok (.agg #[x,c]) w:=
 run_loadVar_mid (P:=prog) w b 0 205 [x,c] _ (Zto d) underlying205 rfl ZqF
theorem ZqG:(prog.info? 218).map (·.size)=some opCells.length:=by kernel_rfl
theorem Zqz (I:Nat)(C:Value)(p:Nat->Bool)(i:Nat)(m:∀args w,(callFunc I args).run prog w=.ok (.enter I args) w)
  (w:World)(x:OpTab w)
  (H:∀(k:Nat) (w':World),k<42->Below w.heap.size w w'->Calls prog I #[.int .i64 k,.agg #[.string (S (ZaB k)),.int .i64 (Zbz k:Nat)],C] w' fun e z=>e=.returned (.bool (p k))/\Below w'.heap.size w' z)
  (U:i<=42)(q:∀R,R<i->p R=false)(r:i<42->p i=true) :
  Calls prog 246 #[.func (.func I) #[] #[C]] w fun e w'=>e=.returned (.tuple #[.int .i64 (if i<42 then i else 0:Nat),.agg #[.string (S (ZaB i)),.int .i64 (Zbz i:Nat)],.bool (decide (i<42))])/\Below w.heap.size w w':=by
 have L:=Hd H;have u:=Hd q;have F:=Hd r;have N:=Hd x;have K:=Hd m;have M:=Hd ZqG;clear H q r x m;go_enter func246,ntmps246
 go_upto_region 1 with fail;refine wp_region_lit ?_;refine wpList_load_mid (by rfl) 218 _ (by rfl) 2 0 (by rfl) opCells _ (N.o.keep ((Yab _ w).alloc (Yad _) _)) underlying218 (by rfl) M.o ?_;go_wp2;go_loopw [8] (fun t wr=>∃k:Nat,k<=i/\t=.int .i64 k/\wr.heap[w.heap.size]?=some (.cells #[.string ⟨#[]⟩,.int .i64 0] 205 (0,0))/\Below w.heap.size w wr) (fun t _=>42-(intOf t).toNat)
 case atStart=>exact⟨0,Yao _,rfl,heap_alloc_new w _,(Yab _ w).alloc (Yad _) _⟩
 case round=>
  obtain⟨k,V,rfl,b,f⟩:=hrel;by_cases l:k<42
  ·have O:(k:Int)<42:=by omega
   have P:(0:Int)<=k:=by omega
   have B:=Zq9 k l;have m:=K.o;have J:=Hd b;clear b;go_wp2_with fail;have h:Below w.heap.size w (wr.alloc (.cells #[.string (S (ZaB k)),.int .i64 (Zbz k:Nat)] 205)):=f.alloc f.size _;refine(L.o k _ l h).mono ?_;rintro e c⟨rfl,g⟩;have a:c.heap[w.heap.size]?=some (.cells #[.string ⟨#[]⟩,.int .i64 0] 205 (0,0)):=(Yae (S:=fun _=>False) g).heap (((Yak (fun _=>False) wr).alloc _).heap J.o id) id;have d:c.heap[wr.heap.size]?=some (.cells #[.string (S (ZaB k)),.int .i64 (Zbz k:Nat)] 205 (0,0)):=(Yae (S:=fun _=>False) g).heap (heap_alloc_new wr _) id;have n:Below w.heap.size w c:=h.trans (g.mono h.size);clear m B g h;by_cases E:k<i
   ·rw[u.o k E];have j:=Hd a;clear a d;go_wp2;go_roundw
    case rel=>exact⟨k+1,by omega,by go_num,j.o,n⟩
    case measure=>simp[intOf];omega
   ·obtain rfl:k=i:=by omega
    rw[F.o l];have G:c.frozen? ⟨w.heap.size,0,none⟩=false:=by simp[World.frozen?,a]
    have y:c.frozen? ⟨w.heap.size,1,none⟩=false:=by simp[World.frozen?,a]
    have A:c.cell? ⟨w.heap.size,0,none⟩=some (.string ⟨#[]⟩):=by simp[World.cell?,a]
    have D:c.cell? ⟨w.heap.size,1,none⟩=some (.int .i64 0):=by simp[World.cell?,a]
    have Q:c.cell? ⟨wr.heap.size,0,none⟩=some (.string (S (ZaB k))):=by simp[World.cell?,d]
    have T:c.cell? ⟨wr.heap.size,1,none⟩=some (.int .i64 (Zbz k:Nat)):=by simp[World.cell?,d]
    have j:=Hd a;clear a d;go_wp2_with go_region
    have s:=Zj5 (w:=((c.setCell ⟨w.heap.size,0,none⟩ (.string (S (ZaB k)))).setCell ⟨w.heap.size,1,none⟩ (.int .i64 (Zbz k:Nat))).drew) (set2 j.o);refine bodyPost_ret (v:=.tuple #[.int .i64 (k:Nat),.agg #[.string (S (ZaB k)),.int .i64 (Zbz k:Nat)],.bool true]) ?_ rfl ⟨rfl,?_⟩
    ·simp[results,results246,asAddr,s]
    ·exact((n.setCell (by simp) _).setCell (by simp) _).drew
  ·obtain rfl:k=42:=by omega
   obtain rfl:i=42:=by omega
   have G:wr.frozen? ⟨w.heap.size,0,none⟩=false:=by simp[World.frozen?,b]
   have y:wr.frozen? ⟨w.heap.size,1,none⟩=false:=by simp[World.frozen?,b]
   have A:wr.cell? ⟨w.heap.size,0,none⟩=some (.string ⟨#[]⟩):=by simp[World.cell?,b]
   have D:wr.cell? ⟨w.heap.size,1,none⟩=some (.int .i64 0):=by simp[World.cell?,b]
   have j:=Hd b;clear b;go_wp2;have s:=Zj5 (w:=(wr.setCell ⟨w.heap.size,0,none⟩ (.string ⟨#[]⟩)).setCell ⟨w.heap.size,1,none⟩ (.int .i64 0)) (set2 j.o);refine bodyPost_ret (v:=.tuple #[.int .i64 0,.agg #[.string (S (ZaB 42)),.int .i64 (Zbz 42:Nat)],.bool false]) ?_ rfl ⟨rfl,?_⟩
   ·rw[at_end.1,at_end.2];simp[results,results246,asAddr,s,S]
   ·exact(f.setCell (by simp) _).setCell (by simp) _

theorem Zn1 {f:FuncId}{b:Func}{c:Code}(h:prog.funcs[f]?=some b)(a:(b.name == "runtime.NumGoroutine")=false)(d:b.body=some c)(args:Array Value)(w:World):(callFunc f args).run prog w=.ok (.enter f args) w:=by
 have g:¬(b.name = "runtime.NumGoroutine"):=by simpa using a
 simp[callFunc,h,g,d,mark]
theorem Zl9 (k b:Nat)(a s:List UInt8)(f:Int)(w:World)(c:w.cell? ⟨b,0,none⟩=some (.string (S s))) :
  Calls prog 247 #[.int .i64 k,.agg #[.string (S a),.int .i64 f],.pointer (some ⟨b,0,none⟩)] w fun e w'=>e=.returned (.bool (a==s))/\Below w.heap.size w w':=by
 have d:∀o:Obj,(w.alloc o).cell? ⟨b,0,none⟩=some (.string (S s)):=fun o=>((Yak (fun _=>False) w).alloc o).cell c id;clear c;go_enter func247,ntmps247;go_wp2;go_ret;refine⟨?_,(Yab _ w).alloc (Yad _) _⟩;show Ending.returned (.bool ((S a).toList==(S s).toList))=_
 rw[Zaf,Zaf]
def Zso (s:List UInt8):Value:=.tuple #[.int .i64 (if idx s<42 then idx s else 0:Nat),.agg #[.string (S (ZaB (idx s))),.int .i64 (Zbz (idx s):Nat)],.bool (decide (idx s<42))]
theorem ZlE (s:List UInt8)(w:World)(m:OpTab w) :
  Calls prog 238 #[.string (S s)] w fun e w'=>e=.returned (Zso s)/\Below w.heap.size w w':=by
 have E:=Ymf;have z:=Hd m;clear m;unfold Zso;obtain⟨y,l⟩:∃y,y=(if idx s<42 then idx s else 0):=⟨_,rfl⟩
 obtain⟨d,j⟩:∃d,d=decide (idx s<42):=⟨_,rfl⟩
 rw[←l,←j];have u:=Hd l;have r:=Hd j;clear l j;go_enter func238,ntmps238
 go_wp2_with fail;have c:Below w.heap.size w ((w.alloc (.cells #[.string (S s)] 9)).alloc (.cells #[.string ⟨#[]⟩,.int .i64 0] 205)):=((Yab _ w).alloc (Yad _) _).alloc (by simp) _;have h:((w.alloc (.cells #[.string (S s)] 9)).alloc (.cells #[.string ⟨#[]⟩,.int .i64 0] 205)).heap[w.heap.size]?=some (.cells #[.string (S s)] 9 (0,0)):=((Yak (fun _=>False) _).alloc _).heap (heap_alloc_new w _) id;have g:((w.alloc (.cells #[.string (S s)] 9)).alloc (.cells #[.string ⟨#[]⟩,.int .i64 0] 205)).heap[w.heap.size+1]?=some (.cells #[.string ⟨#[]⟩,.int .i64 0] 205 (0,0)):=(Zam (w.alloc _) _ _ (by simp)).trans rfl;generalize n:(w.alloc (.cells #[.string (S s)] 9)).alloc (.cells #[.string ⟨#[]⟩,.int .i64 0] 205)=x at c h g⊢;clear n;have b:=Zqz 247 (.pointer (some ⟨w.heap.size,0,none⟩)) (fun k=>ZaB k==s) (idx s) (Zn1 func247 (by kernel_rfl) rfl) x (z.o.keep c)
  (fun k w' _ q=>Zl9 k _ _ s _ w' (by simp[World.cell?,(Only.ofBelow (S:=fun _=>False) q).heap h id])) (Zoe s) (fun I A=>ZgV s I A) (fun H=>Zf1 s H)
 rw[←u.o,←r.o]at b;refine b.mono ?_;clear b;rintro e f⟨rfl,i⟩;have a:f.heap[w.heap.size+1]?=some (.cells #[.string ⟨#[]⟩,.int .i64 0] 205 (0,0)):=(Yae (S:=fun _=>False) i).heap g id;have p:Below w.heap.size w f:=c.trans (i.mono c.size);clear i c h g;have G:f.frozen? ⟨w.heap.size+1,0,none⟩=false:=by simp[World.frozen?,a]
 have D:f.frozen? ⟨w.heap.size+1,1,none⟩=false:=by simp[World.frozen?,a]
 have F:f.cell? ⟨w.heap.size+1,0,none⟩=some (.string ⟨#[]⟩):=by simp[World.cell?,a]
 have C:f.cell? ⟨w.heap.size+1,1,none⟩=some (.int .i64 0):=by simp[World.cell?,a]
 have t:=Hd a;clear a;go_wp2;have B:=Zj5 (w:=(f.setCell ⟨w.heap.size+1,0,none⟩ (.string (S (ZaB (idx s))))).setCell ⟨w.heap.size+1,1,none⟩ (.int .i64 (Zbz (idx s):Nat))) (set2 t.o);refine bodyPost_ret (v:=.tuple #[.int .i64 (y:Nat),.agg #[.string (S (ZaB (idx s))),.int .i64 (Zbz (idx s):Nat)],.bool d]) ?_ rfl ⟨rfl,?_⟩
 ·simp[results,results238,asAddr,B]
 ·exact(p.setCell (by simp) _).setCell (by simp) _
def depN (l:List UInt8):Nat:=if Zag l=true then ZaL l else 0
theorem ZbP {l:List UInt8}(a:Zag l=true):depN l=ZaL l:=by unfold depN;rw[Yay a]
theorem ZdE {l:List UInt8}(a:Zag l=false):depN l=0:=by unfold depN;rw[Yar (by rw[a];decide)]
theorem Zr5 (l:List UInt8):depN l<=3:=by
 unfold depN;split
 ·rename_i a;unfold Zag at a;simp at a;exact a.1
 ·omega
def Off (l:List UInt8)(k:Nat)(a:List UInt8):Prop:=k<=3/\2*k<=l.length/\a=l.take (l.length-2*k)/\ZaL l=ZaL a+k
theorem Zq2 (l:List UInt8):Off l 0 l:=⟨by omega,by omega,by simp,by omega⟩
theorem Zq1 {l b:List UInt8}{k:Nat}(h:Off l k b)(j:k<3)(c:Zby b=true):Off l (k+1) (b.take (b.length-2)):=by
 obtain⟨_,g,a,d⟩:=h;have i:=Zdp c;have f:b.length=l.length-2*k:=by rw[a,YaA];omega
 refine⟨by omega,by omega,?_,by rw[d,ZcF c];omega⟩;rw[f,a,YcC]
 congr 1
 omega
theorem Zo2 {l c:List UInt8}{k:Nat}(n:Off l k c)(a:Zby c=false\/k=3):Zag l=(Zay c || Zah c)/\(Zag l=true->depN l=k):=by
 obtain⟨i,p,j,h⟩:=n;cases d:Zby c with
 |false=>
  have b:ZaL l=k:=by rw[h,ZcR d];omega
  have f:Zbp l=c:=by unfold Zbp;rw[b,j]
  refine⟨by unfold Zag;rw[f,b,Yas i,YaG];rfl,fun g=>by rw[ZbP g,b]⟩
 |true=>
  have q:k=3:=by rcases a with a|a;(rw[d]at a;cases a);exact a
  have b:¬ZaL l<=3:=by rw[h,ZcF d];omega
  have g:Zag l=false:=by unfold Zag;rw[Yan b,YaQ]
  have m:(Zay c || Zah c)=false:=by
   cases f:(Zay c || Zah c)with
   |false=>rfl
   |true=>
    have:=Zdt (Zd7 (l:=c) f);rw[d]at this;cases this
  rw[g,m];exact⟨rfl,fun n=>by cases n⟩
theorem Zsy {l a:List UInt8}{k:Nat}(b:Off l k a):a.length<=l.length:=by rw[b.2.2.1,YaA];omega
def ZsT (l:List UInt8)(w:World)(e:Ending)(w':World):Prop:=e=.returned (.tuple #[.int .i64 (depN l),.bool (Zag l)])/\Below w.heap.size w w'
theorem ZcU {a b:Nat}{c d:Bool}(g:a=b)(f:c=d):Ending.returned (.tuple #[.int .i64 (a:Int),.bool c])=.returned (.tuple #[.int .i64 (b:Int),.bool d]):=by rw[g,f]
theorem ZfM (l:List UInt8)(w:World)(A:l.length<=9223372036854775807) :
  Calls prog 174 #[.string (S l)] w (ZsT l w):=by
 go_enter func174,ntmps174;go_wp2
 go_loop [0,4] (fun D z=>∃(k:Nat) (q:List UInt8),D=.string (S q)/\z=.int .i64 k/\Off l k q) (fun _ z=>3-(intOf z).toNat)
 case atStart=>exact⟨0,l,rfl,rfl,Zq2 l⟩
 case round=>
  obtain⟨k,q,rfl,rfl,i⟩:=hrel;have E:=i.1;have F:=Zsy i;have n:=Hd i;clear i;have p:=Hd (fun w=>ZlP q w (by omega));have d:=Hd (ZeT q);have g:=Hd (fun w=>ZbV q w (by omega));cases j:Zby q with
  |true=>
   by_cases u:k<3
   ·have C:=Hd (fun w=>Zgy q w (by omega) j);have B:=Hd (Zq1 n.o u j);rw[j]at p;have y:(k:Int)<3:=by omega
    clear j;go_wp2_with fail;refine(p.o _).mono ?_;rintro e w'⟨rfl,rfl⟩;go_wp2_with fail;refine(C.o _).mono ?_;rintro e w'⟨rfl,rfl⟩;go_wp2;go_round
    case rel=>exact⟨k+1,_,rfl,by go_num,B.o⟩
    case measure=>simp[intOf];omega
   ·obtain rfl:k=3:=by omega
    obtain⟨h,r⟩:=Zo2 n.o (.inr rfl);have x:(Zay q || Zah q)=false:=by
     cases f:(Zay q || Zah q)with
     |false=>rfl
     |true=>
      have:=Zdt (Zd7 (l:=q) f);rw[j]at this;cases this
    rw[x]at h;rw[Ybv]at x;obtain⟨v,t⟩:=x;rw[v]at d;rw[t]at g;have b:=Hd h;clear j h r v t p n;go_wp2_with fail;refine(d.o _).mono ?_;rintro e w'⟨rfl,rfl⟩;go_wp2_with fail;refine(g.o _).mono ?_;rintro e w'⟨rfl,f⟩;go_wp2;go_ret2
    exact⟨ZcU (a:=0) (ZdE b.o).symm b.o.symm,f⟩
  |false=>
   obtain⟨h,r⟩:=Zo2 n.o (.inl j);rw[j]at p;have b:=Hd h;have s:=Hd r;clear j h r;by_cases u:k<3
   ·have y:(k:Int)<3:=by omega
    cases c:Zay q with
    |true=>
     rw[c]at d;rw[c,Ycs]at b;clear c;go_wp2_with fail;refine(p.o _).mono ?_;rintro e w'⟨rfl,rfl⟩;go_wp2_with fail;refine(d.o _).mono ?_;rintro e w'⟨rfl,rfl⟩;go_wp2;go_ret2
     exact⟨ZcU (s.o b.o).symm b.o.symm,Yab _ _⟩
    |false=>
     rw[c]at d;rw[c,YaV]at b;clear c;cases m:Zah q with
     |true=>
      rw[m]at g b;clear m;go_wp2_with fail;refine(p.o _).mono ?_;rintro e w'⟨rfl,rfl⟩;go_wp2_with fail;refine(d.o _).mono ?_;rintro e w'⟨rfl,rfl⟩;go_wp2_with fail;refine(g.o _).mono ?_;rintro e w'⟨rfl,f⟩;go_wp2;go_ret2
      exact⟨ZcU (s.o b.o).symm b.o.symm,f⟩
     |false=>
      rw[m]at g b;clear m;go_wp2_with fail;refine(p.o _).mono ?_;rintro e w'⟨rfl,rfl⟩;go_wp2_with fail;refine(d.o _).mono ?_;rintro e w'⟨rfl,rfl⟩;go_wp2_with fail;refine(g.o _).mono ?_;rintro e w'⟨rfl,f⟩;go_wp2;go_ret2
      exact⟨ZcU (a:=0) (ZdE b.o).symm b.o.symm,f⟩
   ·obtain rfl:k=3:=by omega
    clear p;cases c:Zay q with
    |true=>
     rw[c]at d;rw[c,Ycs]at b;clear c;go_wp2_with fail;refine(d.o _).mono ?_;rintro e w'⟨rfl,rfl⟩;go_wp2;go_ret2
     exact⟨ZcU (s.o b.o).symm b.o.symm,Yab _ _⟩
    |false=>
     rw[c]at d;rw[c,YaV]at b;clear c;cases m:Zah q with
     |true=>
      rw[m]at g b;clear m;go_wp2_with fail;refine(d.o _).mono ?_;rintro e w'⟨rfl,rfl⟩;go_wp2_with fail;refine(g.o _).mono ?_;rintro e w'⟨rfl,f⟩;go_wp2;go_ret2
      exact⟨ZcU (s.o b.o).symm b.o.symm,f⟩
     |false=>
      rw[m]at g b;clear m;go_wp2_with fail;refine(d.o _).mono ?_;rintro e w'⟨rfl,rfl⟩;go_wp2_with fail;refine(g.o _).mono ?_;rintro e w'⟨rfl,f⟩;go_wp2;go_ret2
      exact⟨ZcU (a:=0) (ZdE b.o).symm b.o.symm,f⟩
theorem Zgq (l:List UInt8)(w:World)(a:l.length<=9223372036854775807) :
  Calls prog 131 #[.string (S l)] w (Said (Zag l) w):=by
 go_enter func131,ntmps131
 go_wp2_with fail;refine(ZfM l w a).mono ?_;rintro e w'⟨rfl,b⟩;go_wp2;go_ret;exact⟨rfl,b⟩
def Zjx (n:Nat)(w:World)(e:Ending)(w':World):Prop:=e=.returned (.int .i64 n)/\Below w.heap.size w w'
theorem ZeC (l:List UInt8)(w:World)(a:l.length<=9223372036854775807) :
  Calls prog 179 #[.string (S l)] w (Zjx (depN l) w):=by
 go_enter func179,ntmps179
 go_wp2_with fail;refine(ZfM l w a).mono ?_;rintro e w'⟨rfl,b⟩;go_wp2;go_ret;exact⟨rfl,b⟩
def Zcc (l:List UInt8)(w:World)(e:Ending)(w':World):Prop:=e=.returned (.string (S l))/\Below w.heap.size w w'
def Znf (l:List UInt8)(w:World)(e:Ending)(w':World):Prop:=
 (if Zag l=true/\ZaL l<=2 then e=.returned (.tuple #[.string (S (ofL l)),.int .i64 0])else e=.returned (.tuple #[.string ⟨#[]⟩,.int .i64 30]))/\Below w.heap.size w w'
theorem Zo1 (l:List UInt8)(w:World)(h:l.length<=9223372036854775807) :
  Calls prog 110 #[.string (S l)] w (Znf l w):=by
 have b:=Hd (ZfM l w h);unfold ZsT at b;cases a:Zag l with
 |false=>
  have d:=Hd (show ¬(Zag l=true/\ZaL l<=2)from fun j=>by rw[a]at j;cases j.1);rw[a]at b;clear a;go_enter func110,ntmps110
  go_wp2_with fail;refine b.o.mono ?_;rintro e w'⟨rfl,c⟩;go_wp2;go_ret2
  exact⟨by rw[Yar d.o];rfl,c⟩
 |true=>
  have i:=ZbP a;rw[a]at b;by_cases g:ZaL l<=2
  ·have d:=Hd (show Zag l=true/\ZaL l<=2 from⟨a,g⟩);have f:((depN l:Int)==3)=false:=by rw[Yah];omega
   have n:Hid (S l++⟨#[91,93]⟩=S (ofL l)):=Zcy l [91,93];have k:(S l).size+2<=9223372036854775807:=by
    have m:=(ZbK (Ze9 a)).2;rw[Zc6]at m;rw[Zat];omega
   clear a i g;generalize depN l=p at *;go_enter func110,ntmps110
   go_wp2_with fail;refine b.o.mono ?_;rintro e w'⟨rfl,c⟩;go_wp2;go_ret2
   exact⟨by rw[Yay d.o];rfl,c⟩
  ·have d:=Hd (show ¬(Zag l=true/\ZaL l<=2)from fun j=>g j.2);have f:depN l=3:=by have:=Zr5 l;omega
   rw[f]at b;clear a i g f;go_enter func110,ntmps110
   go_wp2_with fail;refine b.o.mono ?_;rintro e w'⟨rfl,c⟩;go_wp2;go_ret2
   exact⟨by rw[Yar d.o];rfl,c⟩
