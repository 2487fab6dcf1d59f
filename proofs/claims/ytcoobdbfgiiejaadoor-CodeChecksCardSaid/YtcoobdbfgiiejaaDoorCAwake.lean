/-
  The contract of the laws' awake of layer 4: the chapter's examples come out as the chapter says.
  Conditions: the tables hold what they hold at the start.
-/
import Derived.Test.YtcoobdbfgiiejaaDoorCShow2
import Derived.Test.YtcoobdbfgiiejaaDoorCOps
namespace Go.Proofs.YtcoobdbfgiiejaaDoor
open Go.RowKit
theorem InsSrc.keep {w w' : World} {sv : Value} {l : List Ins} (h : InsSrc w sv l) (hb : Below w.heap.size w w') : InsSrc w' sv l := by
  rcases h with h | ⟨b, o, cap, he, hc⟩
  · exact .inl h
  · refine .inr ⟨b, o, cap, he, fun k x hx => ?_⟩
    obtain ⟨h0, h1, h2⟩ := hc k x hx
    have ho := Only.ofBelow (S := fun _ => False) hb
    exact ⟨ho.cell h0 id, ho.cell h1 id, ho.cell h2 id⟩
def exL : List Ins := [⟨[105, 110, 116], -3, []⟩, ⟨[108, 111, 97, 100], 1, []⟩, ⟨[97, 100, 100], 0, []⟩]
def exCells : Array Value := #[.string ⟨#[105, 110, 116]⟩, .int .i64 (-3), .string ⟨#[]⟩, .string ⟨#[108, 111, 97, 100]⟩, .int .i64 1, .string ⟨#[]⟩, .string ⟨#[97, 100, 100]⟩, .int .i64 0, .string ⟨#[]⟩]
theorem ex_all : allE exL = 0 := by decide +kernel
theorem ex_put : putL exL = [3, 0, 5, 5, 2, 10] := by
  have h1 : (⟨[105, 110, 116], -3, []⟩ : Ins).bytes = [0, 5] := by
    rw [Ins.bytes, show idx [105, 110, 116] = 0 from by decide, show hasAt 0 = 1 from by decide, argBytes, if_pos rfl, show Lib.zigzag (-3) = 5 from by decide, Lib.uvarint_small (by decide), Lib.uvarint_small (by decide)]
    decide
  have h2 : (⟨[108, 111, 97, 100], 1, []⟩ : Ins).bytes = [5, 2] := by
    rw [Ins.bytes, show idx [108, 111, 97, 100] = 5 from by decide, show hasAt 5 = 1 from by decide, argBytes, if_pos rfl, show Lib.zigzag 1 = 2 from by decide, Lib.uvarint_small (by decide), Lib.uvarint_small (by decide)]
    decide
  have h3 : (⟨[97, 100, 100], 0, []⟩ : Ins).bytes = [10] := by
    rw [Ins.bytes, show idx [97, 100, 100] = 10 from by decide, show hasAt 10 = 0 from by decide, argBytes, if_neg (by decide), if_neg (by decide), Lib.uvarint_small (by decide)]
    decide
  rw [putL, exL, List.flatMap_cons, List.flatMap_cons, List.flatMap_cons, h1, h2, h3, show ([⟨[105, 110, 116], -3, []⟩, ⟨[108, 111, 97, 100], 1, []⟩, ⟨[97, 100, 100], 0, []⟩] : List Ins).length = 3 from rfl, Lib.uvarint_small (by decide)]
  decide
theorem ex_show : showL exL = [105, 110, 116, 32, 45, 51, 10, 108, 111, 97, 100, 32, 49, 10, 97, 100, 100, 10] := by decide +kernel
theorem ex_ok : ∀ x ∈ exL, x.ok := by
  intro x hx
  simp [exL] at hx
  rcases hx with rfl | rfl | rfl <;> exact ⟨by decide, by decide⟩
theorem ex_src (w : World) : InsSrc (w.alloc (.cells exCells 23)) (.slice (some ⟨w.heap.size, 0, none⟩) 3 3) exL := by
  refine .inr ⟨_, 0, 3, rfl, fun k x hx => ?_⟩
  have hn := heap_alloc_new w (.cells exCells 23)
  have hc : ∀ o, (w.alloc (.cells exCells 23)).cell? ⟨w.heap.size, o, none⟩ = exCells[o]? := fun o => by
    unfold World.cell?
    rw [hn]
    rfl
  match k, hx with
  | 0, hx => simp [exL] at hx; subst hx; exact ⟨(hc _).trans rfl, (hc _).trans rfl, (hc _).trans rfl⟩
  | 1, hx => simp [exL] at hx; subst hx; exact ⟨(hc _).trans rfl, (hc _).trans rfl, (hc _).trans rfl⟩
  | 2, hx => simp [exL] at hx; subst hx; exact ⟨(hc _).trans rfl, (hc _).trans rfl, (hc _).trans rfl⟩
  | k + 3, hx => simp [exL] at hx
set_option maxHeartbeats 2000000 in
set_option maxRecDepth 100000 in
theorem awake_any (w : World) (hT : CT w) (hp : Pow10 w) :
    Calls Tryd.prog 6 #[] w fun e w' => e = .returned (.bool true) ∧ Below w.heap.size w w' := by
  have HT := Lib.hid hT
  have HP := Lib.hid hp
  clear hT hp
  go_enter Tryd.func6, Tryd.ntmps6
  go_wp2_with fail
  have hb0 : Below w.heap.size w (w.alloc (.cells exCells 23)) := (Below.refl _ w).alloc (Nat.le_refl _) _
  have hs0 := ex_src w
  unfold exCells at hb0 hs0
  generalize w.alloc (.cells _ 23) = wA at hb0 hs0 ⊢
  refine (put_any exL _ wA (HT.out.keep hb0) hs0 (by decide) ex_ok).mono ?_
  rintro e w1 ⟨h1, _⟩
  obtain ⟨v1, rfl, s1⟩ := h1 ex_all
  rw [ex_put] at s1
  clear h1
  have hb1 : Below w.heap.size w w1 := hb0.trans (s1.bel.mono hb0.size)
  have hs1 := hs0.keep s1.bel
  clear hs0
  obtain ⟨ao1, m1, c1, rfl⟩ := row_shape s1.row
  have HS1 := Lib.hid s1
  clear s1
  go_wp2_with fail
  have hsh := show_any exL _ w1 (HT.out.keep hb1) (HP.out.keep hb1) hs1 (by decide) ex_ok
  rw [if_pos ex_all, ex_all, ex_show] at hsh
  refine hsh.mono ?_
  clear hsh hs1
  rintro e w2 ⟨he, hb2⟩
  obtain rfl : e = .returned (.tuple #[.string ⟨#[105, 110, 116, 32, 45, 51, 10, 108, 111, 97, 100, 32, 49, 10, 97, 100, 100, 10]⟩, .int .i64 0]) := he
  have s2 := HS1.out.keep hb2
  have hbw : Below w.heap.size w w2 := hb1.trans (hb2.mono hb1.size)
  have hcv := conv_owned s2.row
  rw [show S [3, 0, 5, 5, 2, 10] = ⟨#[3, 0, 5, 5, 2, 10]⟩ from rfl] at hcv
  clear s2 hb2 hb1 hb0 HS1
  go_wp2_with fail
  refine (ops_any w2 (HT.out.keep hbw).ops).mono ?_
  rintro e w3 ⟨v3, rfl, hr3, _, hb3⟩
  have hb4 : Below w.heap.size w w3 := hbw.trans (hb3.mono hbw.size)
  obtain ⟨ao3, c3, rfl⟩ : ∃ ao c, v3 = .slice ao 42 c := by
    rcases hr3.2 with ⟨_, h⟩ | ⟨g, cap, cur, rfl, _⟩
    · simp at h
    · exact ⟨_, _, rfl⟩
  clear hr3 hb3 hbw hcv
  go_wp2
  go_ret
  exact ⟨rfl, hb4⟩
end Go.Proofs.YtcoobdbfgiiejaaDoor
