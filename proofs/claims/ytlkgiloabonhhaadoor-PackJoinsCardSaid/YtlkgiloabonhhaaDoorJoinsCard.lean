/-
  Proved: squinchlaw01.PackJoins answers true at every slice of uint64 numbers (nil or not) and every uint8, in whatever order Go evaluates its last expression, and its arguments read afterwards as before (the tied card).
  Conditions: the package-level variables unicode/utf8.first and unicode/utf8.acceptRanges start as the program's text lays them, which the card ties.
-/
import Derived.Test.YtlkgiloabonhhaaDoorJoins
import Derived.Test.YtlkgiloabonhhaaDoorLaid
import Derived.Carry
namespace Go.Proofs.YtlkgiloabonhhaaDoor
open Go.Shelf
namespace packJoins
open Go.ChangeShapes Go.WideShapes Go.ChangeAt Go.RowKit Go.Lib Go.WideMaps Go.WideElems

theorem laidOut : laidOutB Tryd.prog = true := by kernel_rfl
theorem cells_u64 : Tryd.prog.cellsOf 22 = 1 := by kernel_rfl
theorem nums_of {H : Type} {enc : TypeId × Value → H} {w : World} {held : Bool} {v : Value} {d : DataW H} {p : List MemPlace} {base : Nat} (hv : Value.okWide Tryd.prog w .any base 61 v)
    (h : DataW.Trod enc Tryd.prog w 0 (fun _ => true) held 61 v d p) : ∃ ao cap ns, v = .slice ao ns.length cap ∧ ArgNums w ao cap ns := by
  obtain ⟨ao, len, cap, rfl⟩ := okWide_slice Tryd.underlying61 hv
  obtain ⟨fuel, hf⟩ := h
  rcases open_ints Tryd.underlying61 Tryd.underlying22 cells_u64 hf with ⟨hcs, _⟩ | ⟨a, len', cap', zs, hcs, _, hl, hm, hz, _, hcell, hwz⟩
  · simp [Value.cells] at hcs
    obtain ⟨rfl, rfl, rfl⟩ := hcs
    exact ⟨none, 0, [], rfl, fun _ => ⟨rfl, rfl⟩, Nat.zero_le _, by decide, fun y hy => (by simp at hy), fun a h => (by cases h)⟩
  · simp [Value.cells] at hcs
    obtain ⟨rfl, rfl, rfl⟩ := hcs
    simp at hz
    have hlen : ((zs.take len).map Int.toNat).length = len := by rw [List.length_map, List.length_take]; omega
    have pos : ∀ z ∈ zs, ((z.toNat : Nat) : Int) = z ∧ z.toNat < 18446744073709551616 := fun z hz' => by
      have := bounds_u64 (hwz z hz')
      omega
    refine ⟨some a, cap, (zs.take len).map Int.toNat, by rw [hlen], fun h => (by cases h), by rw [hlen]; exact hl, by simpa [maxLen] using hm, fun y hy => ?_, fun a' ha j hj => ?_⟩
    · obtain ⟨z, hz1, rfl⟩ := List.mem_map.1 hy
      exact (pos z (List.mem_of_mem_take hz1)).2
    · cases ha
      rw [hlen] at hj
      have hjz : j < zs.length := by omega
      rw [hcell j hjz]
      have e1 : zs.getD j 0 = zs[j] := by simp [List.getD, List.getElem?_eq_getElem hjz]
      have e2 : ((zs.take len).map Int.toNat).getD j 0 = zs[j].toNat := by simp [List.getD, hj, List.getElem?_eq_getElem hjz]
      rw [e1, e2, (pos zs[j] (List.getElem_mem hjz)).1]

theorem witness_row (os : Os) {H : Type} (enc : TypeId × Value → H) :
    (OpenSpec.ofChange Rows.packJoinsSpec).preRow enc Tryd.prog Tryd.f9 Rows.packJoinsRow.domain false Rows.packJoinsRow.laid ((laidWorld os).forCall (fun _ _ => 0) ⟨#[], #[.slice none 0 0, .int .u8 0], []⟩).memory #[.slice none 0 0, .int .u8 0] := by
  have hw : (DataW.whole enc Tryd.prog ((laidWorld os).forCall (fun _ _ => 0) ⟨#[], #[.slice none 0 0, .int .u8 0], []⟩).memory Tryd.f9.params.toList Rows.packJoinsSpec.vars false #[Value.slice none 0 0, Value.int .u8 0].toList 8).map (fun x => (x.1, x.2.1)) =
      some ([.nil, .lit (.int .u8 0)], []) := by kernel_rfl
  obtain ⟨⟨x1, x2, x3⟩, hx, hx1⟩ := Option.map_eq_some_iff.1 hw
  simp only [Prod.mk.injEq] at hx1
  obtain ⟨rfl, rfl⟩ := hx1
  exact OpenSpec.preRow_of_cond 8 hx (by kernel_rfl) (fun k hk => by cases hk) (by kernel_rfl) (laid_met os _)

set_option maxRecDepth 100000 in
set_option maxHeartbeats 2000000 in
theorem lifted (os : Os) (started : os.Started) (H : Type) (enc : TypeId × Value → H) (F : Stop.Interp) :
    ReturnsInHanded {} Tryd.checked os 9 .any ((OpenSpec.ofChange Rows.packJoinsSpec).preRow enc Tryd.prog Tryd.f9 Rows.packJoinsRow.domain false Rows.packJoinsRow.laid) (((OpenSpec.ofChange Rows.packJoinsSpec).at F).post enc Tryd.prog Tryd.f9 false true false false) := by
  refine returnsInHanded_of_row (C := Tryd.checked) (s := OpenSpec.ofChange Rows.packJoinsSpec) own started (by kernel_rfl) Tryd.func9
    (witness_row_atRef (enc := enc) (C := Tryd.checked) false (laidWorld os) #[.slice none 0 0, .int .u8 0] rfl (by kernel_rfl) (by kernel_rfl) (by kernel_rfl) (witness_row os enc)) ?_
  intro W base args ds gs before hval0 hW _ _ _ hL _ _
  have hval : ∀ (j : Nat) t v, Tryd.f9.params[j]? = some t → args[j]? = some v → Value.okWide Tryd.prog W .any base t v := hval0
  have hW' := hW
  obtain ⟨p, q, hA0, hV0, rfl, _, _⟩ := hW
  have hA : DataW.TrodAll enc Tryd.prog W 0 (fun _ => true) true Tryd.f9.params.toList args.toList ds p := hA0
  rw [Tryd.params9] at hA hval
  obtain ⟨v0, v1, d0, d1, p0, p1, rfl, rfl, rfl, h0, h1⟩ := trodAll_two hA
  obtain ⟨rfl, rfl⟩ := trodVars_none hV0
  obtain ⟨y, rfl, rfl, rfl, wy⟩ := open_int Tryd.underlying5 (hval 1 5 v1 rfl rfl) h1
  obtain ⟨ao, cap, ns, rfl, hA1⟩ := nums_of (hval 0 61 v0 rfl rfl) h0
  clear hA0 hV0 hval0
  have htab : Tabs W := tabs_of hL
  have bb := bounds_u8 wy
  obtain ⟨y', hy⟩ := Int.eq_ofNat_of_zero_le bb.1
  have hw := joins_any ao cap ns y' W htab hA1 (by omega)
  rw [← hy] at hw
  refine hw.mono ?_
  rintro e W' ⟨rfl, bel⟩
  have hlt : ∀ x ∈ p0, x.block < W.heap.size := fun x hx => hW'.lt x (by simp [hx])
  have h0' := Below.trod laidOut (by kernel_rfl) (of_decide_eq_true (by kernel_rfl)) h0 bel hlt
  refine ⟨_, rfl, _, _, _, [], p0 ++ [], [], hW', ?_, ?_, ?_, bel.frame _, fun h => by cases h⟩
  · exact trodAll_mk1 (shut_bool Tryd.underlying4 _)
  · exact trodAll_mk2 h0' (shut_int Tryd.underlying5 wy)
  · rfl

theorem said : Rows.PackJoinsSaid :=
  OpenClaim.holds_of_cond 9 Tryd.f9 rfl rfl rfl rfl rfl rfl rfl ⟨rfl, rfl, rfl, rfl, rfl⟩ rfl rfl rfl rfl rfl (by kernel_rfl) Tryd.func9 (by kernel_rfl)
    (of_decide_eq_true (by kernel_rfl)) (by unfold Func.isWrapper; first | (rw [if_pos (by decide +kernel)]; kernel_rfl) | (rw [if_neg (by decide +kernel)]; exact ⟨rfl, rfl⟩))
    (fun os started H enc _ F => by rw [OpenClaim.pre_eq_preRow]; exact lifted os started H enc F)

theorem plain (f : FuncId) (fn : Func) (hf : Tryd.pinned.checked.prog.funcNamed Rows.packJoinsRow.func = some f) (hfn : Tryd.pinned.checked.prog.funcs[f]? = some fn) :
    false = Tryd.pinned.checked.prog.looks [] ∧ ∀ (j : Nat) t, fn.params[j]? = some t → Tryd.pinned.checked.prog.wantsStandIn t = false := by
  obtain rfl : f = 9 := Option.some.inj ((show Tryd.prog.funcNamed Rows.packJoinsRow.func = some 9 by kernel_rfl).symm.trans hf) |>.symm
  obtain rfl : fn = Tryd.f9 := (Option.some.inj (Tryd.func9.symm.trans hfn)).symm
  refine ⟨by kernel_rfl, fun j t ht => ?_⟩
  rw [Tryd.params9] at ht
  have ht2 : t = 61 ∨ t = 5 := by simpa using Array.mem_of_getElem? ht
  rcases ht2 with rfl | rfl
  · exact (show Tryd.prog.wantsStandIn 61 = false by kernel_rfl)
  · exact (show Tryd.prog.wantsStandIn 5 = false by kernel_rfl)

end packJoins
/-- The tied card of PackJoins. -/
theorem packJoins_card : Rows.PackJoinsCardSaid :=
  Claim7.holds_tied_plain_at .later [] _ _ _ _ packJoins.said (fun _ h => by cases h) (by kernel_rfl) (fun _ h => by cases h) packJoins_row_tie rfl ⟨rfl, rfl⟩ (by kernel_rfl) rfl packJoins.plain (by kernel_rfl)
end Go.Proofs.YtlkgiloabonhhaaDoor
