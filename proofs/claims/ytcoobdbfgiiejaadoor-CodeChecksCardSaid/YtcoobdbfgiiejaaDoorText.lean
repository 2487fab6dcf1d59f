/-
  The contract of package pack's reader, Text: a text of whole characters is read, else the error that the document names.
  Conditions: the reader holds its bytes (at most 2^47), stands within them; unicode/utf8's two tables hold what they hold at the start.
-/
import Derived.Test.YtcoobdbfgiiejaaDoorReaderB
import Derived.Test.YtcoobdbfgiiejaaDoorShelf
namespace Go.Proofs.YtcoobdbfgiiejaaDoor
open Go.RowKit Go.Shelf

def Tabs (w : World) : Prop := Lib.Utf8Tabs (laysRen.g 3) (laysRen.g 4) w
theorem Tabs.keep {S : Nat → Prop} {w w' : World} (h : Tabs w) (ho : Only S w w') (h0 : ¬ S 1) (h1 : ¬ S 2) : Tabs w' :=
  ⟨fun c hc => ho.cell (h.1 c hc) h0, fun i hi => ⟨ho.cell (h.2 i hi).1 h1, ho.cell (h.2 i hi).2 h1⟩⟩
theorem valid_any (s : List UInt8) (w : World) (hs : s.length ≤ 9223372036854775807) (hT : Tabs w) :
    Calls Tryd.prog 38 #[.string (S s)] w fun e w' => e = .returned (.bool (Lib.validD s)) ∧ Below w.heap.size w w' := by
  have h : Calls Tryd.prog 38 #[.string (S s)] w _ := Any.utf8_ValidString laysValid (S s) w (by rw [S_size]; exact hs) hT
  rw [S_list] at h
  exact h
theorem row_all {w : World} {v : Value} {l : List UInt8} (h : RowIs w v l) (hl : 0 < l.length) : ∃ g c, v = .slice (some ⟨g, 0, none⟩) l.length c ∧ l.length ≤ c ∧ c ≤ 9223372036854775807 ∧ ∀ j, j < l.length → w.cell? ⟨g, j, none⟩ = (Lib.byteCells l)[j]? := by
  rcases h.2 with ⟨rfl, h0⟩ | ⟨g, cap, cur, rfl, _, _, hn, hm, _⟩
  · omega
  · refine ⟨g, cap, rfl, hn, by simpa [maxLen] using hm, fun j hj => h.cellAt j (by omega)⟩
theorem conv_mid (w : World) (g o n cap : Nat) (l : List UInt8) (hl : o + n ≤ l.length) (hc : ∀ j, j < l.length → w.cell? ⟨g, j, none⟩ = (Lib.byteCells l)[j]?) :
    Sem.run Tryd.prog (convert 36 9 (.slice (some ⟨g, o, none⟩) n cap)) w = .ok (.string (S ((l.drop o).take n))) w := by
  have hlen : ((l.drop o).take n).length = n := by rw [List.length_take, List.length_drop]; omega
  have h := run_convert_bytes_arg (P := Tryd.prog) w 36 5 Tryd.underlying36 Tryd.underlying5 g o n cap (((l.drop o).take n).map fun c => (c.toNat : Int)) (by simpa using hlen) (fun i hi => by
    have h1 : o + i < l.length := by omega
    rw [hc (o + i) h1, byteCells_at]
    simp [List.getD, List.getElem?_eq_getElem h1, hi]) 9 Tryd.underlying9
  rw [h]
  clear h
  refine congrArg (fun s => Result.ok (Value.string s) w) ?_
  simp only [strOfNums, S, List.map_map]
  refine congrArg (fun m : List UInt8 => ByteArray.mk m.toArray) ?_
  conv => rhs; rw [← List.map_id ((l.drop o).take n)]
  apply List.map_congr_left
  intro c _
  simp
/-- 'string(b[p:r])', b a slice that holds l. -/
theorem slice_conv (w : World) (g c p r : Nat) (l : List UInt8) (hpr : p ≤ r) (hr : r ≤ l.length) (hlc : l.length ≤ c) (hc : ∀ j, j < l.length → w.cell? ⟨g, j, none⟩ = (Lib.byteCells l)[j]?) (q : Nat) :
    Sem.run Tryd.prog (convert 36 9 (.slice (if c = p then some ⟨g, 0, none⟩ else some ⟨g, p, none⟩) (r - p) (c - p))) (w.drewN q) = .ok (.string (S ((l.drop p).take (r - p)))) (w.drewN q) := by
  by_cases hcp : c = p
  · rw [if_pos hcp, show r - p = 0 from by omega]
    have h := conv_mid (w.drewN q) g 0 0 (c - p) l (by omega) hc
    simpa using h
  · rw [if_neg hcp]
    exact conv_mid (w.drewN q) g p (r - p) (c - p) l (by omega) hc
end Go.Proofs.YtcoobdbfgiiejaaDoor
