/-
  What the rows list of the three tables gives the contracts of layer 5, and a world in which the tables are laid (for the witness that a row asks for).
  Conditions: none of its own.
-/
import Derived.Test.YtpincofjopmaaaaGreatDoorM40
import Derived.Test.YtpincofjopmaaaaGreatDoorM11
import Derived.Test.YtpincofjopmaaaaGreatDoorCards
import Derived.Test.YtpincofjopmaaaaGreatDoorTie
import Derived.Lib.LaidIn
import Derived.Lib.LaidU8T
import Derived.Deep.DeepHandedRow
import Derived.Deep.DeepWitnessRowRef
import Derived.ProofKit
import Derived.SizedLaws
import Derived.OpenShut
namespace Go.Proofs.YtpincofjopmaaaaGreatDoor
open Go.Shelf Go.RowKit Go.Lib
theorem own : ownKnob Tryz.prog.godebug = none := by kernel_rfl
theorem first_eq : Rows.laid_unicode_utf8_first = Lib.firstData := by kernel_rfl
theorem accept_eq : (Rows.laid_unicode_utf8_acceptRanges : DataW Unit) = Lib.acceptData := by kernel_rfl
def opsData : DataW Unit := .agg (opTab.map fun x => .agg [.lit (.string x.1), .lit (.int .i64 (x.2 : Nat))])
theorem ops_eq : (Rows.laid_squinch_code_operators : DataW Unit) = opsData := by kernel_rfl
theorem tabs_of {W : World} (h3 : VarReads Tryz.prog W "unicode/utf8.first" Rows.laid_unicode_utf8_first) (h4 : VarReads Tryz.prog W "unicode/utf8.acceptRanges" Rows.laid_unicode_utf8_acceptRanges) : Tabs W := by
  rw [accept_eq] at h4
  rw [first_eq] at h3
  exact utf8Tabs_of_readsT (U8Types.of196 laysValid) ⟨by kernel_rfl, by kernel_rfl, by kernel_rfl, by kernel_rfl, by kernel_rfl, by kernel_rfl, by kernel_rfl⟩ h3 h4
theorem pair_at : ∀ (l : List (List UInt8 × Nat)) (i : Nat) (h : i < l.length), (l.flatMap fun x => [Value.string (S x.1), Value.int .i64 (x.2 : Nat)])[2 * i]? = some (.string (S l[i].1)) ∧ (l.flatMap fun x => [Value.string (S x.1), Value.int .i64 (x.2 : Nat)])[2 * i + 1]? = some (.int .i64 (l[i].2 : Nat))
  | x :: l, 0, _ => ⟨rfl, rfl⟩
  | x :: l, i + 1, h => by
    have ih := pair_at l i (by simpa using h)
    rw [List.flatMap_cons, show 2 * (i + 1) = 2 * i + 2 from by omega]
    exact ⟨ih.1, ih.2⟩
theorem pair_len (l : List (List UInt8 × Nat)) : (l.flatMap fun x => [Value.string (S x.1), Value.int .i64 (x.2 : Nat)]).length = 2 * l.length := by
  induction l with
  | nil => rfl
  | cons x l ih => rw [List.flatMap_cons, List.length_append, ih, List.length_cons]; simp; omega
theorem cells_oper : Tryz.prog.cellsOf 242 = 2 := by kernel_rfl
theorem cells_str1 : Tryz.prog.cellsOf 9 = 1 := by kernel_rfl
theorem cells_operand : Tryz.prog.cellsOf 240 = 1 := by kernel_rfl
set_option maxRecDepth 100000 in
/-- The two cells of an operator. -/
theorem oper_of {w : World} {fuel : Nat} {cs : List Value} {p : List MemPlace} {x : List UInt8 × Nat} (hl : cs.length = 2)
    (h : DataW.trod (fun _ => ()) Tryz.prog w 0 (fun _ => true) false fuel 242 cs = some (.agg [.lit (.string x.1), .lit (.int .i64 (x.2 : Nat))], p)) : cs = [.string (S x.1), .int .i64 (x.2 : Nat)] := by
  obtain ⟨ys, n, _, hx, _, hyl, hall⟩ := DataW.trod_struct Tryz.underlying242 h
  match cs, hl with
  | [c0, c1], _ =>
    have g0 : DataW.trod (fun _ => ()) Tryz.prog w 0 (fun _ => true) false n 9 [c0] = ys[0]? := by
      have g := hall 0 _ rfl
      change DataW.trod (fun _ => ()) Tryz.prog w 0 (fun _ => true) false n 9 (([c0, c1].drop 0).take (Tryz.prog.cellsOf 9)) = ys[0]? at g
      rw [cells_str1] at g
      exact g
    have g1 : DataW.trod (fun _ => ()) Tryz.prog w 0 (fun _ => true) false n 240 [c1] = ys[1]? := by
      have g := hall 1 _ rfl
      change DataW.trod (fun _ => ()) Tryz.prog w 0 (fun _ => true) false n 240 (([c0, c1].drop 1).take (Tryz.prog.cellsOf 240)) = ys[1]? at g
      rw [cells_operand] at g
      exact g
    have hy : ys.map (·.1) = [.lit (.string x.1), .lit (.int .i64 (x.2 : Nat))] := by
      have := congrArg Prod.fst hx
      simpa using this.symm
    match ys, hy with
    | [y0, y1], hy =>
      obtain ⟨s, e0, q0, _⟩ := DataW.trod_string Tryz.underlying9 g0
      obtain ⟨z, e1, q1, _⟩ := DataW.trod_int Tryz.underlying240 g1
      simp only [List.cons.injEq, and_true] at e0 e1
      subst e0 e1 q0 q1
      simp only [List.map_cons, List.map_nil, List.cons.injEq, and_true] at hy
      obtain ⟨h0, h1⟩ := hy
      injection h0 with h0
      injection h0 with h0
      injection h1 with h1
      injection h1 with _ h1
      rw [← h0, ← h1, S_data]
set_option maxRecDepth 100000 in
theorem optab_of {W : World} (h : VarReads Tryz.prog W "squinch/code.operators" Rows.laid_squinch_code_operators) : OpTab W := by
  rw [ops_eq] at h
  obtain ⟨g, t, cs, fuel, p, hg, hty, hvar, hd⟩ := h
  obtain rfl : 4 = g := Option.some.inj ((show Tryz.prog.globalNamed "squinch/code.operators" = some 4 by kernel_rfl).symm.trans hg)
  obtain rfl : 287 = t := Option.some.inj ((show (Tryz.prog.globals[4]?).map (·.type) = some 287 by kernel_rfl).symm.trans hty)
  have each : ∀ i (hi : i < opTab.length), cs.toList[2 * i]? = some (.string (S opTab[i].1)) ∧ cs.toList[2 * i + 1]? = some (.int .i64 (opTab[i].2 : Nat)) := by
    intro i hi
    obtain ⟨fuel', d, q, hdi, he⟩ := array_elem Tryz.underlying287 hd i (by rw [opTab_len] at hi; exact hi)
    rw [List.getElem?_map, List.getElem?_eq_getElem hi, Option.map_some, Option.some.injEq] at hdi
    subst hdi
    rw [cells_oper] at he
    have hlen : ((cs.toList.drop (i * 2)).take 2).length = 2 := by
      obtain ⟨_, _, _, _, hl, _, _⟩ := DataW.trod_struct Tryz.underlying242 he
      rw [hl, cells_oper]
    have hc := oper_of (x := opTab[i]) hlen he
    have e0 := congrArg (·[0]?) hc
    have e1 := congrArg (·[1]?) hc
    simp only [List.getElem?_take, List.getElem?_drop] at e0 e1
    refine ⟨?_, ?_⟩
    · simpa [Nat.mul_comm] using e0
    · simpa [Nat.mul_comm] using e1
  intro j v hj
  have hjl : j < 84 := by
    rcases Nat.lt_or_ge j 84 with h | h
    · exact h
    · rw [List.getElem?_eq_none (by unfold opCells; rw [pair_len, opTab_len]; exact h)] at hj; cases hj
  have hcell : W.cell? ⟨4, 0 + j, none⟩ = cs.toList[j]? := by
    rw [Nat.zero_add, World.var?_cell hg hvar j, Array.getElem?_toList]
  have hi : j / 2 < opTab.length := by rw [opTab_len]; omega
  have hA := pair_at opTab (j / 2) hi
  have hB := each (j / 2) hi
  unfold opCells at hj
  rw [hcell]
  rcases (show j = 2 * (j / 2) ∨ j = 2 * (j / 2) + 1 by omega) with h | h
  · rw [h] at hj ⊢
    rw [hB.1, ← hA.1]
    exact hj
  · rw [h] at hj ⊢
    rw [hB.2, ← hA.2]
    exact hj
/-- The settled world, the three variables holding what their initialisers lay. -/
noncomputable def laidWorld (os : Os) : World :=
  let w0 := World.holding Tryz.prog os ⟨#[], #[], []⟩
  let put (h : Array Obj) (g : Nat) (cs : Array Value) : Array Obj := h.modify g fun
    | .cells _ t frozen => .cells cs t frozen
    | o => o
  let h1 := put w0.heap 2 (Lib.firstTab.map fun z => Value.int .u8 z).toArray
  let h2 := put h1 3 ((List.range 16).flatMap fun i => [Value.int .u8 (Lib.accLo i), Value.int .u8 (Lib.accHi i)]).toArray
  let h3 := put h2 4 opCells.toArray
  { w0 with heap := h3 }
/-- The three tables, as the rows list them. -/
def theLaid : List (String × DataW Unit) := [("unicode/utf8.acceptRanges", Rows.laid_unicode_utf8_acceptRanges), ("squinch/code.operators", Rows.laid_squinch_code_operators), ("unicode/utf8.first", Rows.laid_unicode_utf8_first)]
theorem ct_of {W : World} (hL : laidMet Tryz.prog theLaid W) : CT W :=
  ⟨tabs_of (Lib.laidMet.reads hL (.tail _ (.tail _ (.head _)))) (Lib.laidMet.reads hL (.head _)), optab_of (Lib.laidMet.reads hL (.tail _ (.head _)))⟩
theorem laid_met (os : Os) (args : Array Value) : laidMet Tryz.prog theLaid ((laidWorld os).forCall (fun _ _ => 0) ⟨#[], args, []⟩).memory :=
  (LaidIn.of_run (l := theLaid) [2, 3, 4] 8 (by kernel_rfl) (by kernel_rfl) (by kernel_rfl) (by kernel_rfl)).met
end Go.Proofs.YtpincofjopmaaaaGreatDoor
