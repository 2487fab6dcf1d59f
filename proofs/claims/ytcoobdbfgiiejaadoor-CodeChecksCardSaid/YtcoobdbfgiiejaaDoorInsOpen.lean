/-
  A law's argument of type api.Instr or []api.Instr, opened: the instructions that it reads as.
  Conditions: none of its own.
-/
import Derived.Test.YtcoobdbfgiiejaaDoorCEach
import Derived.Test.YtcoobdbfgiiejaaDoorCLaid
import Derived.Deep.Slices
import Derived.Carry
namespace Go.Proofs.YtcoobdbfgiiejaaDoor
set_option maxRecDepth 100000
instance : Inhabited Ins := ⟨⟨[], 0, []⟩⟩
open Go.ChangeShapes Go.WideShapes Go.ChangeAt Go.RowKit Go.Lib Go.WideMaps Go.WideElems Go.Deep
theorem laidOut : laidOutB Tryd.prog = true := by kernel_rfl
theorem cells_instr : Tryd.prog.cellsOf 23 = 3 := by kernel_rfl
theorem cells_i64a : Tryd.prog.cellsOf 2 = 1 := by kernel_rfl
/-- Numbers of 64 bits; texts that a machine may hold. -/
def Ins.held (x : Ins) : Prop := (-9223372036854775808 ≤ x.n ∧ x.n ≤ 9223372036854775807) ∧ x.op.length ≤ 9223372036854775807 ∧ x.s.length ≤ 9223372036854775807
set_option maxRecDepth 100000 in
/-- One instruction out of its three cells. -/
theorem ins_of {H : Type} {enc : TypeId × Value → H} {w : World} {held : Bool} {base fuel : Nat} {sp : Nat → Bool} {cs : List Value} {x : DataW H × List MemPlace} (hl : cs.length = 3)
    (h : DataW.trod enc Tryd.prog w base sp held fuel 23 cs = some x) :
    ∃ f : Ins, f.held ∧ cs = [.string (S f.op), .int .i64 f.n, .string (S f.s)] := by
  obtain ⟨ys, n, _, _, _, hyl, hall⟩ := DataW.trod_struct Tryd.underlying23 h
  match cs, hl with
  | [c0, c1, c2], _ =>
    have g0 : DataW.trod enc Tryd.prog w base sp held n 9 [c0] = ys[0]? := by
      have g := hall 0 _ rfl
      change DataW.trod enc Tryd.prog w base sp held n 9 (([c0, c1, c2].drop 0).take (Tryd.prog.cellsOf 9)) = ys[0]? at g
      rw [cells_str1] at g
      exact g
    rw [List.getElem?_eq_getElem (by rw [hyl]; decide)] at g0
    have g1 : DataW.trod enc Tryd.prog w base sp held n 2 [c1] = ys[1]? := by
      have g := hall 1 _ rfl
      change DataW.trod enc Tryd.prog w base sp held n 2 (([c0, c1, c2].drop 1).take (Tryd.prog.cellsOf 2)) = ys[1]? at g
      rw [cells_i64a] at g
      exact g
    rw [List.getElem?_eq_getElem (by rw [hyl]; decide)] at g1
    have g2 : DataW.trod enc Tryd.prog w base sp held n 9 [c2] = ys[2]? := by
      have g := hall 2 _ rfl
      change DataW.trod enc Tryd.prog w base sp held n 9 (([c0, c1, c2].drop 2).take (Tryd.prog.cellsOf 9)) = ys[2]? at g
      rw [cells_str1] at g
      exact g
    rw [List.getElem?_eq_getElem (by rw [hyl]; decide)] at g2
    obtain ⟨x0, e0, _, w0⟩ := DataW.trod_string Tryd.underlying9 g0
    obtain ⟨x1, e1, _, w1⟩ := DataW.trod_int Tryd.underlying2 g1
    obtain ⟨x2, e2, _, w2⟩ := DataW.trod_string Tryd.underlying9 g2
    simp only [List.cons.injEq, and_true] at e0 e1 e2
    subst e0 e1 e2
    refine ⟨⟨x0.data.toList, x1, x2.data.toList⟩, ⟨bounds_i64 w1, str_len x0 w0, str_len x2 w2⟩, ?_⟩
    show _ = [Value.string (S x0.data.toList), Value.int .i64 x1, Value.string (S x2.data.toList)]
    rw [S_data, S_data]
theorem instr_of {H : Type} {enc : TypeId × Value → H} {w : World} {held : Bool} {v : Value} {d : DataW H} {p : List MemPlace} {base : Nat} (hv : Value.okWide Tryd.prog w .any base 23 v)
    (h : DataW.Trod enc Tryd.prog w 0 (fun _ => true) held 23 v d p) : ∃ f : Ins, f.held ∧ v = f.v := by
  obtain ⟨cs, rfl, hsz⟩ := okWide_struct Tryd.underlying23 hv
  obtain ⟨fuel, hf⟩ := h
  rw [cells_instr] at hsz
  have hc : (Value.agg cs).cells.toList = cs.toList := rfl
  rw [hc] at hf
  obtain ⟨f, hok, hcs⟩ := ins_of (by simpa using hsz) hf
  refine ⟨f, hok, ?_⟩
  have : cs = #[.string (S f.op), .int .i64 f.n, .string (S f.s)] := by
    apply Array.toList_inj.1
    exact hcs
  rw [this]
theorem instrs_of {H : Type} {enc : TypeId × Value → H} {w : World} {held : Bool} {v : Value} {d : DataW H} {p : List MemPlace} {base : Nat} (hv : Value.okWide Tryd.prog w .any base 25 v)
    (h : DataW.Trod enc Tryd.prog w 0 (fun _ => true) held 25 v d p) : ∃ l : List Ins, InsSrc w v l ∧ (∀ x ∈ l, x.held) ∧ l.length ≤ 9223372036854775807 := by
  obtain ⟨ao, len, cap, rfl⟩ := okWide_slice Tryd.underlying25 hv
  obtain ⟨fuel, hf⟩ := h
  rcases open_slice Tryd.underlying25 hf with ⟨hcs, _⟩ | ⟨a, len', cap', m, n, D, Pl, hcs, _, hl, hm, hmm, _, hi⟩
  · simp [Value.cells] at hcs
    obtain ⟨rfl, rfl, rfl⟩ := hcs
    exact ⟨[], .inl ⟨_, _, rfl, rfl⟩, fun x hx => (by simp at hx), by decide⟩
  · simp [Value.cells] at hcs
    obtain ⟨rfl, rfl, rfl⟩ := hcs
    simp at hmm
    subst hmm
    have each : ∀ i, i < len → ∃ f : Ins, f.held ∧ w.cell? (a.add (i * 3)) = some (.string (S f.op)) ∧ w.cell? (a.add (i * 3 + 1)) = some (.int .i64 f.n) ∧ w.cell? (a.add (i * 3 + 2)) = some (.string (S f.s)) := by
      intro i hilt
      obtain ⟨cs', hc, ht⟩ := hi i (by omega)
      rw [cells_instr] at hc
      obtain ⟨_, hcl, hat⟩ := World.cells?_some hc
      obtain ⟨f, hok, rfl⟩ := ins_of hcl ht
      have k0 := hat 0 (by decide)
      have k1 := hat 1 (by decide)
      have k2 := hat 2 (by decide)
      rw [Go.Deep.add_add] at k0 k1 k2
      exact ⟨f, hok, k0, k1, k2⟩
    obtain ⟨F, hF⟩ := choose_lt (α := Ins) each
    have hget : ∀ j f, ((List.range len).map F)[j]? = some f → j < len ∧ f = F j := by
      intro j f hj
      have hjl : j < len := by
        rcases Nat.lt_or_ge j len with h | h
        · exact h
        · simp [List.getElem?_eq_none (show (List.range len).length ≤ j by simpa using h)] at hj
      simp [hjl] at hj
      exact ⟨hjl, hj.symm⟩
    have hlen : ((List.range len).map F).length = len := by simp
    refine ⟨(List.range len).map F, ?_, fun f hf => ?_, by rw [hlen]; have : len ≤ maxLen := by omega
                                                           simpa [maxLen] using this⟩
    · rcases Nat.eq_zero_or_pos len with h0 | h0
      · subst h0
        exact .inl ⟨_, _, rfl, rfl⟩
      · obtain ⟨b, o, ha⟩ := add_plain' (hF 0 h0).2.1
        have ha' : a = ⟨b, o, none⟩ := by
          have e : a.add (0 * 3) = a := by unfold Addr.add; simp
          rw [← e]
          exact ha
        subst ha'
        refine .inr ⟨b, o, m, by rw [hlen], fun k x hx => ?_⟩
        obtain ⟨hjl, rfl⟩ := hget k x hx
        obtain ⟨_, q0, q1, q2⟩ := hF k hjl
        rw [Addr.add_mid] at q0 q1 q2
        exact ⟨q0, by rw [← Nat.add_assoc] at q1; exact q1, by rw [← Nat.add_assoc] at q2; exact q2⟩
    · obtain ⟨i, hi', rfl⟩ := List.mem_map.1 hf
      exact (hF i (by simpa using hi')).1
end Go.Proofs.YtcoobdbfgiiejaaDoor
