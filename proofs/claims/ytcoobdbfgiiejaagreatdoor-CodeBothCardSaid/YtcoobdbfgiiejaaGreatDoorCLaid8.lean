/-
  What the rows list of eight variables (six tables, two errors of strconv) gives the contracts of layer 4's text, and a world in which they are laid.
  Conditions: none of its own.
-/
import Derived.Test.YtcoobdbfgiiejaaGreatDoorCD
import Derived.Test.YtcoobdbfgiiejaaGreatDoorCRead1
namespace Go.Proofs.YtcoobdbfgiiejaaGreatDoor
open Go.Shelf Go.RowKit Go.Lib
theorem iface_of {H : Type} {enc : TypeId × Value → H} {P : Program} {w : World} {base : Nat} {spare : Nat → Bool} {held : Bool} {fuel : Nat} {t : TypeId} {cs : List Value} {x : DataW H × List MemPlace} {ms : Array (String × TypeId)}
    (ht : P.underlying t = some (.interface ms)) (h : DataW.trod enc P w base spare held fuel t cs = some x) : cs = [.nilIface] ∨ ∃ te pe, cs = [.iface te pe] := by
  cases fuel with
  | zero => simp [DataW.trod] at h
  | succ n =>
    unfold DataW.trod at h
    rw [ht] at h
    split at h <;> simp_all
theorem err_of {W : World} {n : String} {d : DataW Unit} {g0 : Nat} {t0 : TypeId} {ms : Array (String × TypeId)} (h : VarReads Tryz.prog W n d) (hg0 : Tryz.prog.globalNamed n = some g0) (ht0 : (Tryz.prog.globals[g0]?).map (·.type) = some t0)
    (hu : Tryz.prog.underlying t0 = some (.interface ms)) : ∃ ev, W.cell? ⟨g0, 0, none⟩ = some ev ∧ (ev = .nilIface ∨ ∃ te pe, ev = .iface te pe) := by
  obtain ⟨g, t, cs, fuel, p, hg, hty, hvar, hd⟩ := h
  obtain rfl := Option.some.inj (hg0.symm.trans hg)
  obtain rfl := Option.some.inj (ht0.symm.trans hty)
  have hc := World.var?_cell hg hvar 0
  rw [hc, ← Array.getElem?_toList]
  rcases iface_of hu hd with e | ⟨te, pe, e⟩
  · rw [e]
    exact ⟨_, rfl, .inl rfl⟩
  · rw [e]
    exact ⟨_, rfl, .inr ⟨te, pe, rfl⟩⟩
/-- The eight variables, as the rows list them. -/
def theLaid8 : List (String × DataW Unit) := [("math/bits.deBruijn32tab", Rows.laid_math_bits_deBruijn32tab), ("math/bits.deBruijn64tab", Rows.laid_math_bits_deBruijn64tab), ("internal/strconv.uint64pow10", Rows.laid_internal_strconv_uint64pow10), ("unicode/utf8.acceptRanges", Rows.laid_unicode_utf8_acceptRanges), ("strconv.ErrRange", Rows.laid_strconv_ErrRange), ("strconv.ErrSyntax", Rows.laid_strconv_ErrSyntax), ("squinch/code.operators", Rows.laid_squinch_code_operators), ("unicode/utf8.first", Rows.laid_unicode_utf8_first)]
theorem ct_of8 {W : World} (hL : laidMet Tryz.prog theLaid8 W) : CT W ∧ Pow10 W ∧ EV W :=
  ⟨⟨tabs_of (Lib.laidMet.reads hL (.tail _ (.tail _ (.tail _ (.tail _ (.tail _ (.tail _ (.tail _ (.head _))))))))) (Lib.laidMet.reads hL (.tail _ (.tail _ (.tail _ (.head _))))), optab_of (Lib.laidMet.reads hL (.tail _ (.tail _ (.tail _ (.tail _ (.tail _ (.tail _ (.head _))))))))⟩, pow10_of (Lib.laidMet.reads hL (.tail _ (.tail _ (.head _)))),
   err_of (Lib.laidMet.reads hL (.tail _ (.tail _ (.tail _ (.tail _ (.tail _ (.head _))))))) (by kernel_rfl) (by kernel_rfl) Tryz.underlying91,
   err_of (Lib.laidMet.reads hL (.tail _ (.tail _ (.tail _ (.tail _ (.head _)))))) (by kernel_rfl) (by kernel_rfl) Tryz.underlying91⟩
/-- The world of CLaid, with the two errors, each a pointer to a text of its own. -/
noncomputable def laidWorld8 (os : Os) : World :=
  let w0 := laidWorld os
  let put (h : Array Obj) (g : Nat) (cs : Array Value) : Array Obj := h.modify g fun
    | .cells _ t frozen => .cells cs t frozen
    | o => o
  let n := w0.heap.size
  let h1 := put w0.heap 6 #[.iface 173 (.pointer (some ⟨n, 0, none⟩))]
  let h2 := put h1 5 #[.iface 173 (.pointer (some ⟨n + 1, 0, none⟩))]
  let h3 := h2.push (.cells #[.string (S [118, 97, 108, 117, 101, 32, 111, 117, 116, 32, 111, 102, 32, 114, 97, 110, 103, 101])] 175)
  let h4 := h3.push (.cells #[.string (S [105, 110, 118, 97, 108, 105, 100, 32, 115, 121, 110, 116, 97, 120])] 175)
  { w0 with heap := h4 }
theorem laid_met8 (os : Os) (args : Array Value) : laidMet Tryz.prog theLaid8 ((laidWorld8 os).forCall (fun _ _ => 0) ⟨#[], args, []⟩).memory :=
  (LaidIn.of_run (l := theLaid8) (List.range 64) 8 (by kernel_rfl) (by kernel_rfl) (by kernel_rfl) (by kernel_rfl)).met
end Go.Proofs.YtcoobdbfgiiejaaGreatDoor
