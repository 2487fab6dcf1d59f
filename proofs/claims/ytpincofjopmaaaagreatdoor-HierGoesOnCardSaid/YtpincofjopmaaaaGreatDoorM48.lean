/-
  A law's argument of type [3]string, opened.
  Conditions: as each text of it says.
-/
import Derived.Test.YtpincofjopmaaaaGreatDoorM45
import Derived.Laws.IdiomArrays
namespace Go.Proofs.YtpincofjopmaaaaGreatDoor
open Go.ChangeShapes Go.WideShapes Go.ChangeAt Go.RowKit Go.Lib Go.WideMaps Go.WideElems Go.Deep
set_option maxRecDepth 100000
theorem oc_str3 : Tryz.prog.cellsOf 55 = 3 := by kernel_rfl
theorem arr3_of {H : Type} {enc : TypeId × Value → H} {w : World} {held : Bool} {v : Value} {d : DataW H} {p : List MemPlace} {base : Nat} (hv : Value.okWide Tryz.prog w .any base 55 v)
    (h : DataW.Trod enc Tryz.prog w 0 (fun _ => true) held 55 v d p) : ∃ q : Three3, q.ok ∧ v = q.val := by
  obtain ⟨cs, rfl, hsz⟩ : ∃ cs, v = .agg cs ∧ cs.size = Tryz.prog.cellsOf 55 := by
    simp only [Value.okWide, Tryz.underlying55] at hv
    obtain ⟨cs, h1, h2, _⟩ := hv
    exact ⟨cs, h1, h2⟩
  obtain ⟨fuel, hf⟩ := h
  rw [oc_str3] at hsz
  have hc : (Value.agg cs).cells.toList = cs.toList := rfl
  rw [hc] at hf
  have hl : cs.toList.length = 3 := by simpa using hsz
  match hcs : cs.toList, hl with
  | [c0, c1, c2], _ =>
    rw [hcs] at hf
    obtain ⟨y0, y1, y2, n, _, g0, g1, g2⟩ := trod_array3 Tryz.underlying55 oc_str hf
    obtain ⟨z0, k0, e0⟩ := open_str g0
    obtain ⟨z1, k1, e1⟩ := open_str g1
    obtain ⟨z2, k2, e2⟩ := open_str g2
    simp only [List.cons.injEq, and_true] at e0 e1 e2
    subst e0 e1 e2
    refine ⟨⟨z0, z1, z2⟩, ⟨k0, k1, k2⟩, ?_⟩
    have : cs = #[.string (S z0), .string (S z1), .string (S z2)] := Array.toList_inj.1 hcs
    rw [this]
    rfl
end Go.Proofs.YtpincofjopmaaaaGreatDoor
