/-
  Proved: squinchlaw01.PackReads answers true at every string and every slice of pairs of ints (nil or not), in whatever order Go evaluates, and its arguments read afterwards as before (the tied card).
  Conditions: the package-level variables unicode/utf8.first and unicode/utf8.acceptRanges start as the program's text lays them, which the card ties.
-/
import Derived.Test.YtfnhobikochfeaaDoorReads
import Derived.Test.YtfnhobikochfeaaDoorLaid
import Derived.Deep.Slices
import Derived.Carry
namespace Go.Proofs.YtfnhobikochfeaaDoor
open Go.Shelf
namespace packReads
open Go.ChangeShapes Go.WideShapes Go.ChangeAt Go.RowKit Go.Lib Go.WideMaps Go.WideElems Go.Deep
open Go.ChangeMaps (open_string shut_string)

theorem laidOut : laidOutB Tryd.prog = true := by kernel_rfl
theorem cells_int : Tryd.prog.cellsOf 3 = 1 := by kernel_rfl
theorem cells_pair : Tryd.prog.cellsOf 49 = 2 := by kernel_rfl
set_option maxRecDepth 100000 in
/-- One pair out of its two cells. -/
theorem pair_of {H : Type} {enc : TypeId × Value → H} {w : World} {held : Bool} {base fuel : Nat} {sp : Nat → Bool} {cs : List Value} {x : DataW H × List MemPlace} (hl : cs.length = 2)
    (h : DataW.trod enc Tryd.prog w base sp held fuel 49 cs = some x) :
    ∃ y : Int × Int, ((-9223372036854775808 ≤ y.1 ∧ y.1 ≤ 9223372036854775807) ∧ (-9223372036854775808 ≤ y.2 ∧ y.2 ≤ 9223372036854775807)) ∧ cs = [.int .i64 y.1, .int .i64 y.2] := by
  obtain ⟨ys, n, _, _, _, hyl, hall⟩ := DataW.trod_array Tryd.underlying49 h
  match cs, hl with
  | [c0, c1], _ =>
    have g0 : DataW.trod enc Tryd.prog w base sp held n 3 [c0] = ys[0]? := by
      have g := hall 0 (by decide)
      change DataW.trod enc Tryd.prog w base sp held n 3 (([c0, c1].drop (0 * Tryd.prog.cellsOf 3)).take (Tryd.prog.cellsOf 3)) = ys[0]? at g
      rw [cells_int] at g
      exact g
    rw [List.getElem?_eq_getElem (by rw [hyl]; decide)] at g0
    have g1 : DataW.trod enc Tryd.prog w base sp held n 3 [c1] = ys[1]? := by
      have g := hall 1 (by decide)
      change DataW.trod enc Tryd.prog w base sp held n 3 (([c0, c1].drop (1 * Tryd.prog.cellsOf 3)).take (Tryd.prog.cellsOf 3)) = ys[1]? at g
      rw [cells_int] at g
      exact g
    rw [List.getElem?_eq_getElem (by rw [hyl]; decide)] at g1
    obtain ⟨x0, e0, _, w0⟩ := DataW.trod_int Tryd.underlying3 g0
    obtain ⟨x1, e1, _, w1⟩ := DataW.trod_int Tryd.underlying3 g1
    simp only [List.cons.injEq, and_true] at e0 e1
    subst e0 e1
    exact ⟨(x0, x1), ⟨bounds_i64 w0, bounds_i64 w1⟩, rfl⟩
theorem pairs_of {H : Type} {enc : TypeId × Value → H} {w : World} {held : Bool} {v : Value} {d : DataW H} {p : List MemPlace} {base : Nat} (hv : Value.okWide Tryd.prog w .any base 45 v)
    (h : DataW.Trod enc Tryd.prog w 0 (fun _ => true) held 45 v d p) : ∃ ao cap ns, v = .slice ao ns.length cap ∧ ArgPairs w ao cap ns := by
  obtain ⟨ao, len, cap, rfl⟩ := okWide_slice Tryd.underlying45 hv
  obtain ⟨fuel, hf⟩ := h
  rcases open_slice Tryd.underlying45 hf with ⟨hcs, _⟩ | ⟨a, len', cap', m, n, D, Pl, hcs, _, hl, hm, hmm, _, hi⟩
  · simp [Value.cells] at hcs
    obtain ⟨rfl, rfl, rfl⟩ := hcs
    exact ⟨none, 0, [], rfl, fun _ => ⟨rfl, rfl⟩, Nat.zero_le _, by decide, fun y hy => (by simp at hy), fun a h => (by cases h)⟩
  · simp [Value.cells] at hcs
    obtain ⟨rfl, rfl, rfl⟩ := hcs
    simp at hmm
    subst hmm
    have each : ∀ i, i < len → ∃ y : Int × Int, ((-9223372036854775808 ≤ y.1 ∧ y.1 ≤ 9223372036854775807) ∧ (-9223372036854775808 ≤ y.2 ∧ y.2 ≤ 9223372036854775807)) ∧ w.cell? (a.add (i * 2)) = some (.int .i64 y.1) ∧ w.cell? (a.add (i * 2 + 1)) = some (.int .i64 y.2) := by
      intro i hilt
      obtain ⟨cs', hc, ht⟩ := hi i (by omega)
      rw [cells_pair] at hc
      obtain ⟨_, hcl, hat⟩ := World.cells?_some hc
      obtain ⟨f, hok, rfl⟩ := pair_of hcl ht
      have k0 := hat 0 (by decide)
      have k1 := hat 1 (by decide)
      rw [Go.Deep.add_add] at k0 k1
      exact ⟨f, hok, k0, k1⟩
    obtain ⟨F, hF⟩ := choose_lt (α := Int × Int) each
    have hget : ∀ j f, ((List.range len).map F)[j]? = some f → j < len ∧ f = F j := by
      intro j f hj
      have hjl : j < len := by
        rcases Nat.lt_or_ge j len with h | h
        · exact h
        · simp [List.getElem?_eq_none (show (List.range len).length ≤ j by simpa using h)] at hj
      simp [hjl] at hj
      exact ⟨hjl, hj.symm⟩
    have hlen : ((List.range len).map F).length = len := by simp
    refine ⟨some a, m, (List.range len).map F, by rw [hlen], fun h => (by cases h), by rw [hlen]; exact hl, by simpa [maxLen] using hm, fun f hf => ?_, fun a' ha j f hj => ?_⟩
    · obtain ⟨i, hi', rfl⟩ := List.mem_map.1 hf
      exact (hF i (by simpa using hi')).1
    · cases ha
      obtain ⟨hjl, rfl⟩ := hget j f hj
      obtain ⟨_, q0, q1⟩ := hF j hjl
      exact ⟨q0, q1⟩
theorem witness_row (os : Os) {H : Type} (enc : TypeId × Value → H) :
    (OpenSpec.ofChange Rows.packReadsSpec).preRow enc Tryd.prog Tryd.f6 Rows.packReadsRow.domain false Rows.packReadsRow.laid ((laidWorld os).forCall (fun _ _ => 0) ⟨#[], #[.string ⟨#[]⟩, .slice none 0 0], []⟩).memory #[.string ⟨#[]⟩, .slice none 0 0] := by
  have hw : (DataW.whole enc Tryd.prog ((laidWorld os).forCall (fun _ _ => 0) ⟨#[], #[.string ⟨#[]⟩, .slice none 0 0], []⟩).memory Tryd.f6.params.toList Rows.packReadsSpec.vars false #[Value.string ⟨#[]⟩, Value.slice none 0 0].toList 8).map (fun x => (x.1, x.2.1)) =
      some ([.lit (.string []), .nil], []) := by kernel_rfl
  obtain ⟨⟨x1, x2, x3⟩, hx, hx1⟩ := Option.map_eq_some_iff.1 hw
  simp only [Prod.mk.injEq] at hx1
  obtain ⟨rfl, rfl⟩ := hx1
  exact OpenSpec.preRow_of_cond 8 hx (by kernel_rfl) (fun k hk => by cases hk) (by kernel_rfl) (laid_met os _)

set_option maxRecDepth 100000 in
set_option maxHeartbeats 2000000 in
theorem lifted (os : Os) (started : os.Started) (H : Type) (enc : TypeId × Value → H) (F : Stop.Interp) :
    ReturnsInHanded {} Tryd.checked os 6 .any ((OpenSpec.ofChange Rows.packReadsSpec).preRow enc Tryd.prog Tryd.f6 Rows.packReadsRow.domain false Rows.packReadsRow.laid) (((OpenSpec.ofChange Rows.packReadsSpec).at F).post enc Tryd.prog Tryd.f6 false true false false) := by
  refine returnsInHanded_of_row (C := Tryd.checked) (s := OpenSpec.ofChange Rows.packReadsSpec) own started (by kernel_rfl) Tryd.func6
    (witness_row_atRef (enc := enc) (C := Tryd.checked) false (laidWorld os) #[.string ⟨#[]⟩, .slice none 0 0] rfl (by kernel_rfl) (by kernel_rfl) (by kernel_rfl) (witness_row os enc)) ?_
  intro W base args ds gs before hval0 hW _ _ _ hL _ _
  have hval : ∀ (j : Nat) t v, Tryd.f6.params[j]? = some t → args[j]? = some v → Value.okWide Tryd.prog W .any base t v := hval0
  have hW' := hW
  obtain ⟨p, q, hA0, hV0, rfl, _, _⟩ := hW
  have hA : DataW.TrodAll enc Tryd.prog W 0 (fun _ => true) true Tryd.f6.params.toList args.toList ds p := hA0
  rw [Tryd.params6] at hA hval
  obtain ⟨v0, v1, d0, d1, p0, p1, rfl, rfl, rfl, h0, h1⟩ := trodAll_two hA
  obtain ⟨rfl, rfl⟩ := trodVars_none hV0
  obtain ⟨s, rfl, rfl, rfl, ws⟩ := open_string Tryd.underlying9 (hval 0 9 v0 rfl rfl) h0
  obtain ⟨ao, cap, ns, rfl, hA1⟩ := pairs_of (hval 1 45 v1 rfl rfl) h1
  clear hA0 hV0 hval0
  have htab : Tabs W := tabs_of hL
  have hw := reads_any s.data.toList ao cap ns W htab hA1
  rw [S_data] at hw
  refine hw.mono ?_
  rintro e W' ⟨rfl, bel⟩
  have hlt : ∀ x ∈ p1, x.block < W.heap.size := fun x hx => hW'.lt x (by simp [hx])
  have h1' := Below.trod laidOut (by kernel_rfl) (of_decide_eq_true (by kernel_rfl)) h1 bel hlt
  refine ⟨_, rfl, _, _, _, [], [] ++ p1, [], hW', ?_, ?_, ?_, bel.frame _, fun h => by cases h⟩
  · exact trodAll_mk1 (shut_bool Tryd.underlying4 _)
  · exact trodAll_mk2 (shut_string Tryd.underlying9 ws) h1'
  · rfl

theorem said : Rows.PackReadsSaid :=
  OpenClaim.holds_of_cond 6 Tryd.f6 rfl rfl rfl rfl rfl rfl rfl ⟨rfl, rfl, rfl, rfl, rfl⟩ rfl rfl rfl rfl rfl (by kernel_rfl) Tryd.func6 (by kernel_rfl)
    (of_decide_eq_true (by kernel_rfl)) (by unfold Func.isWrapper; first | (rw [if_pos (by decide +kernel)]; kernel_rfl) | (rw [if_neg (by decide +kernel)]; exact ⟨rfl, rfl⟩))
    (fun os started H enc _ F => by rw [OpenClaim.pre_eq_preRow]; exact lifted os started H enc F)

theorem plain (f : FuncId) (fn : Func) (hf : Tryd.pinned.checked.prog.funcNamed Rows.packReadsRow.func = some f) (hfn : Tryd.pinned.checked.prog.funcs[f]? = some fn) :
    false = Tryd.pinned.checked.prog.looks [] ∧ ∀ (j : Nat) t, fn.params[j]? = some t → Tryd.pinned.checked.prog.wantsStandIn t = false := by
  obtain rfl : f = 6 := Option.some.inj ((show Tryd.prog.funcNamed Rows.packReadsRow.func = some 6 by kernel_rfl).symm.trans hf) |>.symm
  obtain rfl : fn = Tryd.f6 := (Option.some.inj (Tryd.func6.symm.trans hfn)).symm
  refine ⟨by kernel_rfl, fun j t ht => ?_⟩
  rw [Tryd.params6] at ht
  have ht2 : t = 9 ∨ t = 45 := by simpa using Array.mem_of_getElem? ht
  rcases ht2 with rfl | rfl
  · exact (show Tryd.prog.wantsStandIn 9 = false by kernel_rfl)
  · exact (show Tryd.prog.wantsStandIn 45 = false by kernel_rfl)

end packReads
/-- The tied card of PackReads. -/
theorem packReads_card : Rows.PackReadsCardSaid :=
  Claim7.holds_tied_plain_at .later [] _ _ _ _ packReads.said (fun _ h => by cases h) (by kernel_rfl) (fun _ h => by cases h) packReads_row_tie rfl ⟨rfl, rfl⟩ (by kernel_rfl) rfl packReads.plain (by kernel_rfl)
end Go.Proofs.YtfnhobikochfeaaDoor
