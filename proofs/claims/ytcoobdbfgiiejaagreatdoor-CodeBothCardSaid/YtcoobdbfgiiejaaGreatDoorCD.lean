/-
  What the rows list of the six tables gives the contracts of layer 4, and a world in which the tables are laid (for the witness that a row asks for).
  Conditions: none of its own.
  A law's argument of type api.Instr or []api.Instr, opened: the instructions that it reads as.
  Conditions: none of its own.
-/
import Derived.Test.YtcoobdbfgiiejaaGreatDoorCB
import Derived.Test.YtcoobdbfgiiejaaGreatDoorCards
import Derived.Test.YtcoobdbfgiiejaaGreatDoorTie
import Derived.Lib.LaidIn
import Derived.Lib.LaidU8T
import Derived.Deep.DeepHandedRow
import Derived.Deep.DeepWitnessRowRef
import Derived.ProofKit
import Derived.SizedLaws
import Derived.OpenShut
import Derived.Deep.Slices
import Derived.Carry
namespace Go.Proofs.YtcoobdbfgiiejaaGreatDoor
open Go.Shelf Go.RowKit Go.Lib
theorem own : ownKnob Tryz.prog.godebug = none := by kernel_rfl
theorem first_eq : Rows.laid_unicode_utf8_first = Lib.firstData := by kernel_rfl
theorem accept_eq : (Rows.laid_unicode_utf8_acceptRanges : DataW Unit) = Lib.acceptData := by kernel_rfl
theorem pow_eq : (Rows.laid_internal_strconv_uint64pow10 : DataW Unit) = Lib.tabData .u64 Lib.pow10Tab := by kernel_rfl
def opsData : DataW Unit := .agg (opTab.map fun x => .agg [.lit (.string x.1), .lit (.int .i64 (x.2 : Nat))])
theorem ops_eq : (Rows.laid_squinch_code_operators : DataW Unit) = opsData := by kernel_rfl
theorem tabs_of {W : World} (h3 : VarReads Tryz.prog W "unicode/utf8.first" Rows.laid_unicode_utf8_first) (h4 : VarReads Tryz.prog W "unicode/utf8.acceptRanges" Rows.laid_unicode_utf8_acceptRanges) : Tabs W := by
  rw [accept_eq] at h4
  rw [first_eq] at h3
  exact utf8Tabs_of_readsT (U8Types.of196 laysValid) ⟨by kernel_rfl, by kernel_rfl, by kernel_rfl, by kernel_rfl, by kernel_rfl, by kernel_rfl, by kernel_rfl⟩ h3 h4
theorem pow10_of {W : World} (h : VarReads Tryz.prog W "internal/strconv.uint64pow10" Rows.laid_internal_strconv_uint64pow10) : Pow10 W := by
  rw [pow_eq] at h
  obtain ⟨g, t, cs, fuel, p, hg, hty, hvar, hd⟩ := h
  obtain rfl := Option.some.inj (pow10_name.symm.trans hg)
  obtain rfl : 152 = t := Option.some.inj ((show (Tryz.prog.globals[1]?).map (·.type) = some 152 by kernel_rfl).symm.trans hty)
  have hcs := cells_of_tab Tryz.underlying152 Tryz.underlying37 (by kernel_rfl) (by kernel_rfl) hd
  unfold World.var? at hvar
  rw [pow10_name] at hvar
  change (match (W.heap[1]? : Option Obj) with | some (Obj.cells cs _ _) => some cs | _ => none) = some cs at hvar
  split at hvar
  · rename_i cs' t' fz' hh
    cases hvar
    refine ⟨t', fz', hh.trans ?_⟩
    rw [← hcs]
  · cases hvar
theorem pair_at : ∀ (l : List (List UInt8 × Nat)) (i : Nat) (h : i < l.length), (l.flatMap fun x => [Value.string (S x.1), Value.int .i64 (x.2 : Nat)])[2 * i]? = some (.string (S l[i].1)) ∧ (l.flatMap fun x => [Value.string (S x.1), Value.int .i64 (x.2 : Nat)])[2 * i + 1]? = some (.int .i64 (l[i].2 : Nat))
  | x :: l, 0, _ => ⟨rfl, rfl⟩
  | x :: l, i + 1, h => by
    have ih := pair_at l i (by simpa using h)
    rw [List.flatMap_cons, show 2 * (i + 1) = 2 * i + 2 from by omega]
    exact ⟨ih.1, ih.2⟩
theorem pair_len (l : List (List UInt8 × Nat)) : (l.flatMap fun x => [Value.string (S x.1), Value.int .i64 (x.2 : Nat)]).length = 2 * l.length := by
  induction l with
  | nil => rfl
  | cons x l ih => rw [List.flatMap_cons, List.length_append, ih, List.length_cons]; simp; omega
theorem cells_oper : Tryz.prog.cellsOf 59 = 2 := by kernel_rfl
theorem cells_str1 : Tryz.prog.cellsOf 9 = 1 := by kernel_rfl
theorem cells_operand : Tryz.prog.cellsOf 57 = 1 := by kernel_rfl
set_option maxRecDepth 100000 in
/-- The two cells of an operator. -/
theorem oper_of {w : World} {fuel : Nat} {cs : List Value} {p : List MemPlace} {x : List UInt8 × Nat} (hl : cs.length = 2)
    (h : DataW.trod (fun _ => ()) Tryz.prog w 0 (fun _ => true) false fuel 59 cs = some (.agg [.lit (.string x.1), .lit (.int .i64 (x.2 : Nat))], p)) : cs = [.string (S x.1), .int .i64 (x.2 : Nat)] := by
  obtain ⟨ys, n, _, hx, _, hyl, hall⟩ := DataW.trod_struct Tryz.underlying59 h
  match cs, hl with
  | [c0, c1], _ =>
    have g0 : DataW.trod (fun _ => ()) Tryz.prog w 0 (fun _ => true) false n 9 [c0] = ys[0]? := by
      have g := hall 0 _ rfl
      change DataW.trod (fun _ => ()) Tryz.prog w 0 (fun _ => true) false n 9 (([c0, c1].drop 0).take (Tryz.prog.cellsOf 9)) = ys[0]? at g
      rw [cells_str1] at g
      exact g
    have g1 : DataW.trod (fun _ => ()) Tryz.prog w 0 (fun _ => true) false n 57 [c1] = ys[1]? := by
      have g := hall 1 _ rfl
      change DataW.trod (fun _ => ()) Tryz.prog w 0 (fun _ => true) false n 57 (([c0, c1].drop 1).take (Tryz.prog.cellsOf 57)) = ys[1]? at g
      rw [cells_operand] at g
      exact g
    have hy : ys.map (·.1) = [.lit (.string x.1), .lit (.int .i64 (x.2 : Nat))] := by
      have := congrArg Prod.fst hx
      simpa using this.symm
    match ys, hy with
    | [y0, y1], hy =>
      obtain ⟨s, e0, q0, _⟩ := DataW.trod_string Tryz.underlying9 g0
      obtain ⟨z, e1, q1, _⟩ := DataW.trod_int Tryz.underlying57 g1
      simp only [List.cons.injEq, and_true] at e0 e1
      subst e0 e1 q0 q1
      simp only [List.map_cons, List.map_nil, List.cons.injEq, and_true] at hy
      obtain ⟨h0, h1⟩ := hy
      injection h0 with h0
      injection h0 with h0
      injection h1 with h1
      injection h1 with _ h1
      rw [← h0, ← h1, S_data]
set_option maxRecDepth 100000 in
theorem optab_of {W : World} (h : VarReads Tryz.prog W "squinch/code.operators" Rows.laid_squinch_code_operators) : OpTab W := by
  rw [ops_eq] at h
  obtain ⟨g, t, cs, fuel, p, hg, hty, hvar, hd⟩ := h
  obtain rfl : 0 = g := Option.some.inj ((show Tryz.prog.globalNamed "squinch/code.operators" = some 0 by kernel_rfl).symm.trans hg)
  obtain rfl : 96 = t := Option.some.inj ((show (Tryz.prog.globals[0]?).map (·.type) = some 96 by kernel_rfl).symm.trans hty)
  have each : ∀ i (hi : i < opTab.length), cs.toList[2 * i]? = some (.string (S opTab[i].1)) ∧ cs.toList[2 * i + 1]? = some (.int .i64 (opTab[i].2 : Nat)) := by
    intro i hi
    obtain ⟨fuel', d, q, hdi, he⟩ := array_elem Tryz.underlying96 hd i (by rw [opTab_len] at hi; exact hi)
    rw [List.getElem?_map, List.getElem?_eq_getElem hi, Option.map_some, Option.some.injEq] at hdi
    subst hdi
    rw [cells_oper] at he
    have hlen : ((cs.toList.drop (i * 2)).take 2).length = 2 := by
      obtain ⟨_, _, _, _, hl, _, _⟩ := DataW.trod_struct Tryz.underlying59 he
      rw [hl, cells_oper]
    have hc := oper_of (x := opTab[i]) hlen he
    have e0 := congrArg (·[0]?) hc
    have e1 := congrArg (·[1]?) hc
    simp only [List.getElem?_take, List.getElem?_drop] at e0 e1
    refine ⟨?_, ?_⟩
    · simpa [Nat.mul_comm] using e0
    · simpa [Nat.mul_comm] using e1
  intro j v hj
  have hjl : j < 84 := by
    rcases Nat.lt_or_ge j 84 with h | h
    · exact h
    · rw [List.getElem?_eq_none (by unfold opCells; rw [pair_len, opTab_len]; exact h)] at hj; cases hj
  have hcell : W.cell? ⟨0, 0 + j, none⟩ = cs.toList[j]? := by
    rw [Nat.zero_add, World.var?_cell hg hvar j, Array.getElem?_toList]
  have hi : j / 2 < opTab.length := by rw [opTab_len]; omega
  have hA := pair_at opTab (j / 2) hi
  have hB := each (j / 2) hi
  unfold opCells at hj
  rw [hcell]
  rcases (show j = 2 * (j / 2) ∨ j = 2 * (j / 2) + 1 by omega) with h | h
  · rw [h] at hj ⊢
    rw [hB.1, ← hA.1]
    exact hj
  · rw [h] at hj ⊢
    rw [hB.2, ← hA.2]
    exact hj
def litCells : DataW Unit → List Value
  | .agg ds => ds.map fun
    | .lit (.int k z) => Value.int k z
    | _ => undef
  | _ => []
/-- The settled world, the six variables holding what their initialisers lay. -/
noncomputable def laidWorld (os : Os) : World :=
  let w0 := World.holding Tryz.prog os ⟨#[], #[], []⟩
  let put (h : Array Obj) (g : Nat) (cs : Array Value) : Array Obj := h.modify g fun
    | .cells _ t frozen => .cells cs t frozen
    | o => o
  let h1 := put w0.heap 2 (Lib.firstTab.map fun z => Value.int .u8 z).toArray
  let h2 := put h1 3 ((List.range 16).flatMap fun i => [Value.int .u8 (Lib.accLo i), Value.int .u8 (Lib.accHi i)]).toArray
  let h3 := put h2 0 opCells.toArray
  let h4 := put h3 1 (Lib.pow10Tab.map fun z => Value.int .u64 z).toArray
  let h5 := put h4 7 (litCells Rows.laid_math_bits_deBruijn32tab).toArray
  let h6 := put h5 8 (litCells Rows.laid_math_bits_deBruijn64tab).toArray
  { w0 with heap := h6 }
/-- The six tables, as the rows list them. -/
def theLaid : List (String × DataW Unit) := [("math/bits.deBruijn32tab", Rows.laid_math_bits_deBruijn32tab), ("math/bits.deBruijn64tab", Rows.laid_math_bits_deBruijn64tab), ("internal/strconv.uint64pow10", Rows.laid_internal_strconv_uint64pow10), ("unicode/utf8.acceptRanges", Rows.laid_unicode_utf8_acceptRanges), ("squinch/code.operators", Rows.laid_squinch_code_operators), ("unicode/utf8.first", Rows.laid_unicode_utf8_first)]
theorem ct_of {W : World} (hL : laidMet Tryz.prog theLaid W) : CT W ∧ Pow10 W :=
  ⟨⟨tabs_of (Lib.laidMet.reads hL (.tail _ (.tail _ (.tail _ (.tail _ (.tail _ (.head _))))))) (Lib.laidMet.reads hL (.tail _ (.tail _ (.tail _ (.head _))))), optab_of (Lib.laidMet.reads hL (.tail _ (.tail _ (.tail _ (.tail _ (.head _))))))⟩, pow10_of (Lib.laidMet.reads hL (.tail _ (.tail _ (.head _))))⟩
theorem laid_met (os : Os) (args : Array Value) : laidMet Tryz.prog theLaid ((laidWorld os).forCall (fun _ _ => 0) ⟨#[], args, []⟩).memory :=
  (LaidIn.of_run (l := theLaid) [2, 3, 0, 1, 7, 8] 8 (by kernel_rfl) (by kernel_rfl) (by kernel_rfl) (by kernel_rfl)).met
end Go.Proofs.YtcoobdbfgiiejaaGreatDoor
namespace Go.Proofs.YtcoobdbfgiiejaaGreatDoor
set_option maxRecDepth 100000
instance : Inhabited Ins := ⟨⟨[], 0, []⟩⟩
open Go.ChangeShapes Go.WideShapes Go.ChangeAt Go.RowKit Go.Lib Go.WideMaps Go.WideElems Go.Deep
theorem laidOut : laidOutB Tryz.prog = true := by kernel_rfl
theorem cells_instr : Tryz.prog.cellsOf 50 = 3 := by kernel_rfl
theorem cells_i64a : Tryz.prog.cellsOf 2 = 1 := by kernel_rfl
/-- Numbers of 64 bits; texts that a machine may hold. -/
def Ins.held (x : Ins) : Prop := (-9223372036854775808 ≤ x.n ∧ x.n ≤ 9223372036854775807) ∧ x.op.length ≤ 9223372036854775807 ∧ x.s.length ≤ 9223372036854775807
set_option maxRecDepth 100000 in
/-- One instruction out of its three cells. -/
theorem ins_of {H : Type} {enc : TypeId × Value → H} {w : World} {held : Bool} {base fuel : Nat} {sp : Nat → Bool} {cs : List Value} {x : DataW H × List MemPlace} (hl : cs.length = 3)
    (h : DataW.trod enc Tryz.prog w base sp held fuel 50 cs = some x) :
    ∃ f : Ins, f.held ∧ cs = [.string (S f.op), .int .i64 f.n, .string (S f.s)] := by
  obtain ⟨ys, n, _, _, _, hyl, hall⟩ := DataW.trod_struct Tryz.underlying50 h
  match cs, hl with
  | [c0, c1, c2], _ =>
    have g0 : DataW.trod enc Tryz.prog w base sp held n 9 [c0] = ys[0]? := by
      have g := hall 0 _ rfl
      change DataW.trod enc Tryz.prog w base sp held n 9 (([c0, c1, c2].drop 0).take (Tryz.prog.cellsOf 9)) = ys[0]? at g
      rw [cells_str1] at g
      exact g
    rw [List.getElem?_eq_getElem (by rw [hyl]; decide)] at g0
    have g1 : DataW.trod enc Tryz.prog w base sp held n 2 [c1] = ys[1]? := by
      have g := hall 1 _ rfl
      change DataW.trod enc Tryz.prog w base sp held n 2 (([c0, c1, c2].drop 1).take (Tryz.prog.cellsOf 2)) = ys[1]? at g
      rw [cells_i64a] at g
      exact g
    rw [List.getElem?_eq_getElem (by rw [hyl]; decide)] at g1
    have g2 : DataW.trod enc Tryz.prog w base sp held n 9 [c2] = ys[2]? := by
      have g := hall 2 _ rfl
      change DataW.trod enc Tryz.prog w base sp held n 9 (([c0, c1, c2].drop 2).take (Tryz.prog.cellsOf 9)) = ys[2]? at g
      rw [cells_str1] at g
      exact g
    rw [List.getElem?_eq_getElem (by rw [hyl]; decide)] at g2
    obtain ⟨x0, e0, _, w0⟩ := DataW.trod_string Tryz.underlying9 g0
    obtain ⟨x1, e1, _, w1⟩ := DataW.trod_int Tryz.underlying2 g1
    obtain ⟨x2, e2, _, w2⟩ := DataW.trod_string Tryz.underlying9 g2
    simp only [List.cons.injEq, and_true] at e0 e1 e2
    subst e0 e1 e2
    refine ⟨⟨x0.data.toList, x1, x2.data.toList⟩, ⟨bounds_i64 w1, str_len x0 w0, str_len x2 w2⟩, ?_⟩
    show _ = [Value.string (S x0.data.toList), Value.int .i64 x1, Value.string (S x2.data.toList)]
    rw [S_data, S_data]
theorem instr_of {H : Type} {enc : TypeId × Value → H} {w : World} {held : Bool} {v : Value} {d : DataW H} {p : List MemPlace} {base : Nat} (hv : Value.okWide Tryz.prog w .any base 50 v)
    (h : DataW.Trod enc Tryz.prog w 0 (fun _ => true) held 50 v d p) : ∃ f : Ins, f.held ∧ v = f.v := by
  obtain ⟨cs, rfl, hsz⟩ := okWide_struct Tryz.underlying50 hv
  obtain ⟨fuel, hf⟩ := h
  rw [cells_instr] at hsz
  have hc : (Value.agg cs).cells.toList = cs.toList := rfl
  rw [hc] at hf
  obtain ⟨f, hok, hcs⟩ := ins_of (by simpa using hsz) hf
  refine ⟨f, hok, ?_⟩
  have : cs = #[.string (S f.op), .int .i64 f.n, .string (S f.s)] := by
    apply Array.toList_inj.1
    exact hcs
  rw [this]
theorem instrs_of {H : Type} {enc : TypeId × Value → H} {w : World} {held : Bool} {v : Value} {d : DataW H} {p : List MemPlace} {base : Nat} (hv : Value.okWide Tryz.prog w .any base 22 v)
    (h : DataW.Trod enc Tryz.prog w 0 (fun _ => true) held 22 v d p) : ∃ l : List Ins, InsSrc w v l ∧ (∀ x ∈ l, x.held) ∧ l.length ≤ 9223372036854775807 := by
  obtain ⟨ao, len, cap, rfl⟩ := okWide_slice Tryz.underlying22 hv
  obtain ⟨fuel, hf⟩ := h
  rcases open_slice Tryz.underlying22 hf with ⟨hcs, _⟩ | ⟨a, len', cap', m, n, D, Pl, hcs, _, hl, hm, hmm, _, hi⟩
  · simp [Value.cells] at hcs
    obtain ⟨rfl, rfl, rfl⟩ := hcs
    exact ⟨[], .inl ⟨_, _, rfl, rfl⟩, fun x hx => (by simp at hx), by decide⟩
  · simp [Value.cells] at hcs
    obtain ⟨rfl, rfl, rfl⟩ := hcs
    simp at hmm
    subst hmm
    have each : ∀ i, i < len → ∃ f : Ins, f.held ∧ w.cell? (a.add (i * 3)) = some (.string (S f.op)) ∧ w.cell? (a.add (i * 3 + 1)) = some (.int .i64 f.n) ∧ w.cell? (a.add (i * 3 + 2)) = some (.string (S f.s)) := by
      intro i hilt
      obtain ⟨cs', hc, ht⟩ := hi i (by omega)
      rw [cells_instr] at hc
      obtain ⟨_, hcl, hat⟩ := World.cells?_some hc
      obtain ⟨f, hok, rfl⟩ := ins_of hcl ht
      have k0 := hat 0 (by decide)
      have k1 := hat 1 (by decide)
      have k2 := hat 2 (by decide)
      rw [Go.Deep.add_add] at k0 k1 k2
      exact ⟨f, hok, k0, k1, k2⟩
    obtain ⟨F, hF⟩ := choose_lt (α := Ins) each
    have hget : ∀ j f, ((List.range len).map F)[j]? = some f → j < len ∧ f = F j := by
      intro j f hj
      have hjl : j < len := by
        rcases Nat.lt_or_ge j len with h | h
        · exact h
        · simp [List.getElem?_eq_none (show (List.range len).length ≤ j by simpa using h)] at hj
      simp [hjl] at hj
      exact ⟨hjl, hj.symm⟩
    have hlen : ((List.range len).map F).length = len := by simp
    refine ⟨(List.range len).map F, ?_, fun f hf => ?_, by rw [hlen]; have : len ≤ maxLen := by omega
                                                           simpa [maxLen] using this⟩
    · rcases Nat.eq_zero_or_pos len with h0 | h0
      · subst h0
        exact .inl ⟨_, _, rfl, rfl⟩
      · obtain ⟨b, o, ha⟩ := add_plain' (hF 0 h0).2.1
        have ha' : a = ⟨b, o, none⟩ := by
          have e : a.add (0 * 3) = a := by unfold Addr.add; simp
          rw [← e]
          exact ha
        subst ha'
        refine .inr ⟨b, o, m, by rw [hlen], fun k x hx => ?_⟩
        obtain ⟨hjl, rfl⟩ := hget k x hx
        obtain ⟨_, q0, q1, q2⟩ := hF k hjl
        rw [Addr.add_mid] at q0 q1 q2
        exact ⟨q0, by rw [← Nat.add_assoc] at q1; exact q1, by rw [← Nat.add_assoc] at q2; exact q2⟩
    · obtain ⟨i, hi', rfl⟩ := List.mem_map.1 hf
      exact (hF i (by simpa using hi')).1
end Go.Proofs.YtcoobdbfgiiejaaGreatDoor
