/-
  A law's argument of type []squinchref01.Field, opened: the fields that it reads as.
  Conditions: none of its own.
-/
import Derived.Test.YtlkgiloabonhhaaDoorFields
import Derived.Test.YtlkgiloabonhhaaDoorLaid
import Derived.Deep.Slices
import Derived.Carry
namespace Go.Proofs.YtlkgiloabonhhaaDoor
instance : Inhabited Fld := ⟨⟨0, 0, 0, 0, false, []⟩⟩
open Go.ChangeShapes Go.WideShapes Go.ChangeAt Go.RowKit Go.Lib Go.WideMaps Go.WideElems Go.Deep
theorem laidOut : laidOutB Tryd.prog = true := by kernel_rfl
theorem cells_field : Tryd.prog.cellsOf 35 = 6 := by kernel_rfl
theorem cells_int : Tryd.prog.cellsOf 3 = 1 := by kernel_rfl
theorem cells_u64' : Tryd.prog.cellsOf 22 = 1 := by kernel_rfl
theorem cells_i64 : Tryd.prog.cellsOf 2 = 1 := by kernel_rfl
theorem cells_bool : Tryd.prog.cellsOf 4 = 1 := by kernel_rfl
theorem cells_str : Tryd.prog.cellsOf 9 = 1 := by kernel_rfl
/-- One field out of its six cells. -/
theorem fld_of {H : Type} {enc : TypeId × Value → H} {w : World} {held : Bool} {base fuel : Nat} {sp : Nat → Bool} {cs : List Value} {x : DataW H × List MemPlace} (hl : cs.length = 6)
    (h : DataW.trod enc Tryd.prog w base sp held fuel 35 cs = some x) :
    ∃ f : Fld, f.Ok ∧ cs = [.int .i64 f.kind, .int .i64 f.most, .int .u64 f.n, .int .i64 f.i, .bool f.yes, .string (S f.s)] := by
  obtain ⟨ys, n, _, _, _, hyl, hall⟩ := DataW.trod_struct Tryd.underlying35 h
  match cs, hl with
  | [c0, c1, c2, c3, c4, c5], _ =>
    have g0 : DataW.trod enc Tryd.prog w base sp held n 3 [c0] = ys[0]? := by
      have g := hall 0 _ rfl
      change DataW.trod enc Tryd.prog w base sp held n 3 (([c0, c1, c2, c3, c4, c5].drop 0).take (Tryd.prog.cellsOf 3)) = ys[0]? at g
      rw [cells_int] at g
      exact g
    rw [List.getElem?_eq_getElem (by rw [hyl]; decide)] at g0
    have g1 : DataW.trod enc Tryd.prog w base sp held n 3 [c1] = ys[1]? := by
      have g := hall 1 _ rfl
      change DataW.trod enc Tryd.prog w base sp held n 3 (([c0, c1, c2, c3, c4, c5].drop 1).take (Tryd.prog.cellsOf 3)) = ys[1]? at g
      rw [cells_int] at g
      exact g
    rw [List.getElem?_eq_getElem (by rw [hyl]; decide)] at g1
    have g2 : DataW.trod enc Tryd.prog w base sp held n 22 [c2] = ys[2]? := by
      have g := hall 2 _ rfl
      change DataW.trod enc Tryd.prog w base sp held n 22 (([c0, c1, c2, c3, c4, c5].drop 2).take (Tryd.prog.cellsOf 22)) = ys[2]? at g
      rw [cells_u64'] at g
      exact g
    rw [List.getElem?_eq_getElem (by rw [hyl]; decide)] at g2
    have g3 : DataW.trod enc Tryd.prog w base sp held n 2 [c3] = ys[3]? := by
      have g := hall 3 _ rfl
      change DataW.trod enc Tryd.prog w base sp held n 2 (([c0, c1, c2, c3, c4, c5].drop 3).take (Tryd.prog.cellsOf 2)) = ys[3]? at g
      rw [cells_i64] at g
      exact g
    rw [List.getElem?_eq_getElem (by rw [hyl]; decide)] at g3
    have g4 : DataW.trod enc Tryd.prog w base sp held n 4 [c4] = ys[4]? := by
      have g := hall 4 _ rfl
      change DataW.trod enc Tryd.prog w base sp held n 4 (([c0, c1, c2, c3, c4, c5].drop 4).take (Tryd.prog.cellsOf 4)) = ys[4]? at g
      rw [cells_bool] at g
      exact g
    rw [List.getElem?_eq_getElem (by rw [hyl]; decide)] at g4
    have g5 : DataW.trod enc Tryd.prog w base sp held n 9 [c5] = ys[5]? := by
      have g := hall 5 _ rfl
      change DataW.trod enc Tryd.prog w base sp held n 9 (([c0, c1, c2, c3, c4, c5].drop 5).take (Tryd.prog.cellsOf 9)) = ys[5]? at g
      rw [cells_str] at g
      exact g
    rw [List.getElem?_eq_getElem (by rw [hyl]; decide)] at g5
    obtain ⟨x0, e0, _, w0⟩ := DataW.trod_int Tryd.underlying3 g0
    obtain ⟨x1, e1, _, w1⟩ := DataW.trod_int Tryd.underlying3 g1
    obtain ⟨x2, e2, _, w2⟩ := DataW.trod_int Tryd.underlying22 g2
    obtain ⟨x3, e3, _, w3⟩ := DataW.trod_int Tryd.underlying2 g3
    obtain ⟨x4, e4, _⟩ := DataW.trod_bool Tryd.underlying4 g4
    obtain ⟨x5, e5, _, w5⟩ := DataW.trod_string Tryd.underlying9 g5
    simp only [List.cons.injEq, and_true] at e0 e1 e2 e3 e4 e5
    subst e0 e1 e2 e3 e4 e5
    have b2 := bounds_u64 w2
    refine ⟨⟨x0, x1, x2.toNat, x3, x4, x5.data.toList⟩, ⟨bounds_i64 w0, bounds_i64 w1, by show x2.toNat < _; omega, bounds_i64 w3, str_len x5 w5⟩, ?_⟩
    show _ = [Value.int .i64 x0, Value.int .i64 x1, Value.int .u64 (x2.toNat : Int), Value.int .i64 x3, Value.bool x4, Value.string (S x5.data.toList)]
    rw [S_data, Int.toNat_of_nonneg b2.1]
theorem fields_of {H : Type} {enc : TypeId × Value → H} {w : World} {held : Bool} {v : Value} {d : DataW H} {p : List MemPlace} {base : Nat} (hv : Value.okWide Tryd.prog w .any base 31 v)
    (h : DataW.Trod enc Tryd.prog w 0 (fun _ => true) held 31 v d p) : ∃ ao cap fs, v = .slice ao fs.length cap ∧ ArgFields w ao cap fs := by
  obtain ⟨ao, len, cap, rfl⟩ := okWide_slice Tryd.underlying31 hv
  obtain ⟨fuel, hf⟩ := h
  rcases open_slice Tryd.underlying31 hf with ⟨hcs, _⟩ | ⟨a, len', cap', m, n, D, Pl, hcs, _, hl, hm, hmm, _, hi⟩
  · simp [Value.cells] at hcs
    obtain ⟨rfl, rfl, rfl⟩ := hcs
    exact ⟨none, 0, [], rfl, fun _ => ⟨rfl, rfl⟩, Nat.zero_le _, by decide, fun y hy => (by simp at hy), fun a h => (by cases h), fun a h => (by cases h), fun a h => (by cases h), fun a h => (by cases h), fun a h => (by cases h), fun a h => (by cases h)⟩
  · simp [Value.cells] at hcs
    obtain ⟨rfl, rfl, rfl⟩ := hcs
    simp at hmm
    subst hmm
    have each : ∀ i, i < len → ∃ f : Fld, f.Ok ∧ w.cell? (a.add (i * 6)) = some (.int .i64 f.kind) ∧ w.cell? (a.add (i * 6 + 1)) = some (.int .i64 f.most) ∧ w.cell? (a.add (i * 6 + 2)) = some (.int .u64 f.n) ∧ w.cell? (a.add (i * 6 + 3)) = some (.int .i64 f.i) ∧ w.cell? (a.add (i * 6 + 4)) = some (.bool f.yes) ∧ w.cell? (a.add (i * 6 + 5)) = some (.string (S f.s)) := by
      intro i hilt
      obtain ⟨cs', hc, ht⟩ := hi i (by omega)
      rw [cells_field] at hc
      obtain ⟨_, hcl, hat⟩ := World.cells?_some hc
      obtain ⟨f, hok, rfl⟩ := fld_of hcl ht
      have k0 := hat 0 (by decide)
      have k1 := hat 1 (by decide)
      have k2 := hat 2 (by decide)
      have k3 := hat 3 (by decide)
      have k4 := hat 4 (by decide)
      have k5 := hat 5 (by decide)
      rw [Go.Deep.add_add] at k0 k1 k2 k3 k4 k5
      exact ⟨f, hok, k0, k1, k2, k3, k4, k5⟩
    obtain ⟨F, hF⟩ := choose_lt (α := Fld) each
    have hget : ∀ j f, ((List.range len).map F)[j]? = some f → j < len ∧ f = F j := by
      intro j f hj
      have hjl : j < len := by
        rcases Nat.lt_or_ge j len with h | h
        · exact h
        · simp [List.getElem?_eq_none (show (List.range len).length ≤ j by simpa using h)] at hj
      simp [hjl] at hj
      exact ⟨hjl, hj.symm⟩
    have hlen : ((List.range len).map F).length = len := by simp
    refine ⟨some a, m, (List.range len).map F, by rw [hlen], fun h => (by cases h), by rw [hlen]; exact hl, by simpa [maxLen] using hm, fun f hf => ?_, fun a' ha j f hj => ?_, fun a' ha j f hj => ?_, fun a' ha j f hj => ?_, fun a' ha j f hj => ?_, fun a' ha j f hj => ?_, fun a' ha j f hj => ?_⟩
    · obtain ⟨i, hi', rfl⟩ := List.mem_map.1 hf
      exact (hF i (by simpa using hi')).1
    all_goals
      cases ha
      obtain ⟨hjl, rfl⟩ := hget j f hj
      obtain ⟨_, q0, q1, q2, q3, q4, q5⟩ := hF j hjl
      assumption
end Go.Proofs.YtlkgiloabonhhaaDoor
