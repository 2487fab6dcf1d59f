/-
  A law's argument of type api.Class or []api.Class, opened: the classes that it reads as.
  What the rows list of the three tables gives the contracts of layer 5, and a world in which the tables are laid (for the witness that a row asks for).
  What the rows list of the four tables gives the contracts of layer 6, and a world in which the tables are laid (for the witness that a row asks for).
  A struct stored into a block, field by field.
  Conditions: as each text of it says.
-/
import Derived.Test.YtpincofjopmaaaaGreatDoorM11
import Derived.Test.YtpincofjopmaaaaGreatDoorM09
import Derived.Test.YtpincofjopmaaaaGreatDoorM04
import Derived.Deep.Slices
import Derived.Carry
import Derived.OpenShut
import Derived.Deep.DeepHandedRow
import Derived.ProofKit
import Derived.Test.YtpincofjopmaaaaGreatDoorM07
import Derived.Test.YtpincofjopmaaaaGreatDoorCards
import Derived.Test.YtpincofjopmaaaaGreatDoorTie
import Derived.Lib.LaidIn
import Derived.Lib.LaidU8T
import Derived.Deep.DeepWitnessRowRef
import Derived.SizedLaws
import Derived.Test.YtpincofjopmaaaaGreatDoorM21
import Derived.Test.YtpincofjopmaaaaGreatDoorM20
namespace Go.Proofs.YtpincofjopmaaaaGreatDoor
set_option maxRecDepth 100000
open Go.ChangeShapes Go.WideShapes Go.ChangeAt Go.RowKit Go.Lib Go.WideMaps Go.WideElems Go.Deep
instance : Inhabited Ins := ⟨⟨[], 0, []⟩⟩
instance : Inhabited Fld := ⟨⟨[], [], false⟩⟩
instance : Inhabited Cat := ⟨⟨0, 0, 0, []⟩⟩
instance : Inhabited Mth := ⟨⟨[], [], [], false, 0, [], []⟩⟩
instance : Inhabited Cls := ⟨⟨[], [], [], false, false, false, [], []⟩⟩
theorem laidOut : laidOutB Tryz.prog = true := by kernel_rfl
theorem elems_of {H : Type} {enc : TypeId × Value → H} {w : World} {held : Bool} {fuel : Nat} {α : Type} [Inhabited α] {R : ElemRel α} {p : α → Prop} {t e : TypeId} {n : Nat} {cs : List Value} {x : DataW H × List MemPlace}
    (ht : Tryz.prog.underlying t = some (.slice e)) (hn : Tryz.prog.cellsOf e = n) (hn0 : 0 < n) (h : DataW.trod enc Tryz.prog w 0 (fun _ => true) held fuel t cs = some x)
    (each : ∀ (fuel : Nat) (cs' : List Value) (y : DataW H × List MemPlace), cs'.length = n → DataW.trod enc Tryz.prog w 0 (fun _ => true) held fuel e cs' = some y → ∃ z : α, p z ∧ ∃ v : Value, R Anyw w z v ∧ v.cells.toList = cs') :
    ∃ (v : Value) (l : List α), cs = [v] ∧ Src n R Anyw w v l ∧ (∀ z ∈ l, p z) ∧ l.length ≤ 9223372036854775807 := by
  rcases open_slice ht h with ⟨hcs, _⟩ | ⟨a, len, cap, m, k, D, Pl, hcs, _, hl, hm, hmm, _, hi⟩
  · exact ⟨_, [], hcs, .nil, (fun z hz => by simp at hz), by simp⟩
  · have hmx : cap ≤ 9223372036854775807 := by unfold maxLen at hm; omega
    have hlm : len ≤ m := by rw [hmm]; simp; exact hl
    have each' : ∀ i, i < len → ∃ z : α, p z ∧ ∃ v : Value, R Anyw w z v ∧ v.cells.size = n ∧ ∀ (j : Nat) u, v.cells[j]? = some u → w.cell? (a.add (i * n + j)) = some u := by
      intro i hilt
      obtain ⟨cs', hc, ht'⟩ := hi i (by omega)
      rw [hn] at hc
      obtain ⟨_, hcl, hat⟩ := World.cells?_some hc
      obtain ⟨z, hz, v, hv, hvc⟩ := each _ cs' _ hcl ht'
      have hsz : v.cells.size = n := by rw [← Array.length_toList, hvc, hcl]
      refine ⟨z, hz, v, hv, hsz, fun j u hj => ?_⟩
      have hjn := cells_lt hsz hj
      have q := hat j hjn
      rw [Go.Deep.add_add] at q
      rw [q, ← hvc, Array.getElem?_toList]
      exact hj
    obtain ⟨F, hF⟩ := choose_lt (α := α) each'
    rcases Nat.eq_zero_or_pos len with h0 | h0
    · subst h0
      exact ⟨_, [], hcs, .inl ⟨_, _, rfl, rfl⟩, (fun z hz => by simp at hz), by simp⟩
    · obtain ⟨_, v0, _, hs0, hc0⟩ := hF 0 h0
      have hc00 := hc0 0 (v0.cells[0]'(by omega)) (Array.getElem?_eq_getElem _)
      obtain ⟨b, o, ha⟩ := add_plain' hc00
      have e : a.add (0 * n + 0) = a := by unfold Addr.add; simp
      have ha' : a = ⟨b, o, none⟩ := by rw [← e]; exact ha
      subst ha'
      have hb : b < w.heap.size := World.block_lt_of_cell? w _ (by rw [e] at hc00; exact hc00)
      have hlen : ((List.range len).map F).length = len := by simp
      have hget : ∀ (j : Nat) f, ((List.range len).map F)[j]? = some f → j < len ∧ f = F j := by
        intro j f hj
        have hjl : j < len := by
          rcases Nat.lt_or_ge j len with h | h
          · exact h
          · simp [List.getElem?_eq_none (show (List.range len).length ≤ j by simpa using h)] at hj
        simp [hjl] at hj
        exact ⟨hjl, hj.symm⟩
      refine ⟨_, (List.range len).map F, hcs, .inr ⟨b, o, cap, by rw [hlen], ⟨trivial, hb, by rw [hlen]; exact hl, hmx⟩, fun k z hz => ?_⟩, fun z hz => ?_, by rw [hlen]; omega⟩
      · obtain ⟨hk, rfl⟩ := hget k z hz
        obtain ⟨_, v, hv, hs, hc⟩ := hF k hk
        refine ⟨v, hv, hs, fun j u hj => ?_⟩
        have q := hc j u hj
        rw [Addr.add_mid] at q
        rw [Nat.add_assoc]
        exact q
      · obtain ⟨i, hi', rfl⟩ := List.mem_map.1 hz
        exact (hF i (by simpa using hi')).1
theorem oc_str : Tryz.prog.cellsOf 9 = 1 := by kernel_rfl
theorem oc_bool : Tryz.prog.cellsOf 4 = 1 := by kernel_rfl
theorem oc_int : Tryz.prog.cellsOf 3 = 1 := by kernel_rfl
theorem oc_i64 : Tryz.prog.cellsOf 2 = 1 := by kernel_rfl
theorem oc_lstr : Tryz.prog.cellsOf 22 = 1 := by kernel_rfl
theorem oc_lins : Tryz.prog.cellsOf 30 = 1 := by kernel_rfl
theorem oc_lcat : Tryz.prog.cellsOf 31 = 1 := by kernel_rfl
theorem oc_lfld : Tryz.prog.cellsOf 23 = 1 := by kernel_rfl
theorem oc_lmth : Tryz.prog.cellsOf 24 = 1 := by kernel_rfl
theorem oc_ins : Tryz.prog.cellsOf 70 = 3 := by kernel_rfl
theorem oc_cat : Tryz.prog.cellsOf 141 = 4 := by kernel_rfl
theorem oc_fld : Tryz.prog.cellsOf 62 = 3 := by kernel_rfl
theorem oc_mth : Tryz.prog.cellsOf 33 = 7 := by kernel_rfl
theorem oc_cls : Tryz.prog.cellsOf 26 = 8 := by kernel_rfl
theorem open_str {H : Type} {enc : TypeId × Value → H} {w : World} {held : Bool} {fuel : Nat} {cs : List Value} {x : DataW H × List MemPlace} (h : DataW.trod enc Tryz.prog w 0 (fun _ => true) held fuel 9 cs = some x) :
    ∃ z : List UInt8, strOk z ∧ cs = [.string (S z)] := by
  obtain ⟨s, e, _, wd⟩ := DataW.trod_string Tryz.underlying9 h
  exact ⟨s.data.toList, str_len s wd, by rw [e, S_data]⟩
theorem open_lstr {H : Type} {enc : TypeId × Value → H} {w : World} {held : Bool} {fuel : Nat} {cs : List Value} {x : DataW H × List MemPlace} (h : DataW.trod enc Tryz.prog w 0 (fun _ => true) held fuel 22 cs = some x) :
    ∃ (v : Value) (l : List (List UInt8)), cs = [v] ∧ Src 1 StrR Anyw w v l ∧ (∀ z ∈ l, (fun z : (List UInt8) => strOk z) z) ∧ l.length ≤ 9223372036854775807 :=
  elems_of (p := fun z : (List UInt8) => strOk z) Tryz.underlying22 oc_str (by decide) h (fun _ cs' _ hl ht => by obtain ⟨z, k, e⟩ := open_str ht; exact ⟨z, k, .string (S z), rfl, by rw [e]; rfl⟩)
theorem open_ins {H : Type} {enc : TypeId × Value → H} {w : World} {held : Bool} {fuel : Nat} {cs : List Value} {x : DataW H × List MemPlace} (hl : cs.length = 3)
    (h : DataW.trod enc Tryz.prog w 0 (fun _ => true) held fuel 70 cs = some x) : ∃ z : Ins, (i64 z.n ∧ strOk z.op ∧ strOk z.s) ∧ ∃ v : Value, InsR Anyw w z v ∧ v.cells.toList = cs := by
  obtain ⟨ys, n, _, _, _, hyl, hall⟩ := DataW.trod_struct Tryz.underlying70 h
  match cs, hl with
  | [c0, c1, c2], _ =>
    have g0 : DataW.trod enc Tryz.prog w 0 (fun _ => true) held n 9 [c0] = ys[0]? := by
      have g := hall 0 _ rfl
      change DataW.trod enc Tryz.prog w 0 (fun _ => true) held n 9 (([c0, c1, c2].drop 0).take (Tryz.prog.cellsOf 9)) = ys[0]? at g
      rw [oc_str] at g
      exact g
    rw [List.getElem?_eq_getElem (by rw [hyl]; decide)] at g0
    have g1 : DataW.trod enc Tryz.prog w 0 (fun _ => true) held n 2 [c1] = ys[1]? := by
      have g := hall 1 _ rfl
      change DataW.trod enc Tryz.prog w 0 (fun _ => true) held n 2 (([c0, c1, c2].drop 1).take (Tryz.prog.cellsOf 2)) = ys[1]? at g
      rw [oc_i64] at g
      exact g
    rw [List.getElem?_eq_getElem (by rw [hyl]; decide)] at g1
    have g2 : DataW.trod enc Tryz.prog w 0 (fun _ => true) held n 9 [c2] = ys[2]? := by
      have g := hall 2 _ rfl
      change DataW.trod enc Tryz.prog w 0 (fun _ => true) held n 9 (([c0, c1, c2].drop 2).take (Tryz.prog.cellsOf 9)) = ys[2]? at g
      rw [oc_str] at g
      exact g
    rw [List.getElem?_eq_getElem (by rw [hyl]; decide)] at g2
    obtain ⟨z0, k0, e0⟩ := open_str g0
    obtain ⟨z1, e1, _, k1⟩ := DataW.trod_int Tryz.underlying2 g1
    obtain ⟨z2, k2, e2⟩ := open_str g2
    simp only [List.cons.injEq, and_true] at e0
    subst e0
    simp only [List.cons.injEq, and_true] at e1
    subst e1
    simp only [List.cons.injEq, and_true] at e2
    subst e2
    exact ⟨⟨z0, z1, z2⟩, ⟨bounds_i64 k1, k0, k2⟩, _, rfl, rfl⟩
theorem open_lins {H : Type} {enc : TypeId × Value → H} {w : World} {held : Bool} {fuel : Nat} {cs : List Value} {x : DataW H × List MemPlace} (h : DataW.trod enc Tryz.prog w 0 (fun _ => true) held fuel 30 cs = some x) :
    ∃ (v : Value) (l : List Ins), cs = [v] ∧ Src 3 InsR Anyw w v l ∧ (∀ z ∈ l, (fun z : Ins => i64 z.n ∧ strOk z.op ∧ strOk z.s) z) ∧ l.length ≤ 9223372036854775807 :=
  elems_of (p := fun z : Ins => i64 z.n ∧ strOk z.op ∧ strOk z.s) Tryz.underlying30 oc_ins (by decide) h (fun _ cs' _ hl ht => open_ins hl ht)
theorem open_cat {H : Type} {enc : TypeId × Value → H} {w : World} {held : Bool} {fuel : Nat} {cs : List Value} {x : DataW H × List MemPlace} (hl : cs.length = 4)
    (h : DataW.trod enc Tryz.prog w 0 (fun _ => true) held fuel 141 cs = some x) : ∃ z : Cat, (z.held ∧ strOk z.cls) ∧ ∃ v : Value, CatR Anyw w z v ∧ v.cells.toList = cs := by
  obtain ⟨ys, n, _, _, _, hyl, hall⟩ := DataW.trod_struct Tryz.underlying141 h
  match cs, hl with
  | [c0, c1, c2, c3], _ =>
    have g0 : DataW.trod enc Tryz.prog w 0 (fun _ => true) held n 3 [c0] = ys[0]? := by
      have g := hall 0 _ rfl
      change DataW.trod enc Tryz.prog w 0 (fun _ => true) held n 3 (([c0, c1, c2, c3].drop 0).take (Tryz.prog.cellsOf 3)) = ys[0]? at g
      rw [oc_int] at g
      exact g
    rw [List.getElem?_eq_getElem (by rw [hyl]; decide)] at g0
    have g1 : DataW.trod enc Tryz.prog w 0 (fun _ => true) held n 3 [c1] = ys[1]? := by
      have g := hall 1 _ rfl
      change DataW.trod enc Tryz.prog w 0 (fun _ => true) held n 3 (([c0, c1, c2, c3].drop 1).take (Tryz.prog.cellsOf 3)) = ys[1]? at g
      rw [oc_int] at g
      exact g
    rw [List.getElem?_eq_getElem (by rw [hyl]; decide)] at g1
    have g2 : DataW.trod enc Tryz.prog w 0 (fun _ => true) held n 3 [c2] = ys[2]? := by
      have g := hall 2 _ rfl
      change DataW.trod enc Tryz.prog w 0 (fun _ => true) held n 3 (([c0, c1, c2, c3].drop 2).take (Tryz.prog.cellsOf 3)) = ys[2]? at g
      rw [oc_int] at g
      exact g
    rw [List.getElem?_eq_getElem (by rw [hyl]; decide)] at g2
    have g3 : DataW.trod enc Tryz.prog w 0 (fun _ => true) held n 9 [c3] = ys[3]? := by
      have g := hall 3 _ rfl
      change DataW.trod enc Tryz.prog w 0 (fun _ => true) held n 9 (([c0, c1, c2, c3].drop 3).take (Tryz.prog.cellsOf 9)) = ys[3]? at g
      rw [oc_str] at g
      exact g
    rw [List.getElem?_eq_getElem (by rw [hyl]; decide)] at g3
    obtain ⟨z0, e0, _, k0⟩ := DataW.trod_int Tryz.underlying3 g0
    obtain ⟨z1, e1, _, k1⟩ := DataW.trod_int Tryz.underlying3 g1
    obtain ⟨z2, e2, _, k2⟩ := DataW.trod_int Tryz.underlying3 g2
    obtain ⟨z3, k3, e3⟩ := open_str g3
    simp only [List.cons.injEq, and_true] at e0
    subst e0
    simp only [List.cons.injEq, and_true] at e1
    subst e1
    simp only [List.cons.injEq, and_true] at e2
    subst e2
    simp only [List.cons.injEq, and_true] at e3
    subst e3
    exact ⟨⟨z0, z1, z2, z3⟩, ⟨⟨bounds_i64 k0, bounds_i64 k1, bounds_i64 k2⟩, k3⟩, _, rfl, rfl⟩
theorem open_lcat {H : Type} {enc : TypeId × Value → H} {w : World} {held : Bool} {fuel : Nat} {cs : List Value} {x : DataW H × List MemPlace} (h : DataW.trod enc Tryz.prog w 0 (fun _ => true) held fuel 31 cs = some x) :
    ∃ (v : Value) (l : List Cat), cs = [v] ∧ Src 4 CatR Anyw w v l ∧ (∀ z ∈ l, (fun z : Cat => z.held ∧ strOk z.cls) z) ∧ l.length ≤ 9223372036854775807 :=
  elems_of (p := fun z : Cat => z.held ∧ strOk z.cls) Tryz.underlying31 oc_cat (by decide) h (fun _ cs' _ hl ht => open_cat hl ht)
theorem open_fld {H : Type} {enc : TypeId × Value → H} {w : World} {held : Bool} {fuel : Nat} {cs : List Value} {x : DataW H × List MemPlace} (hl : cs.length = 3)
    (h : DataW.trod enc Tryz.prog w 0 (fun _ => true) held fuel 62 cs = some x) : ∃ z : Fld, (strOk z.name ∧ strOk z.kind) ∧ ∃ v : Value, FldR Anyw w z v ∧ v.cells.toList = cs := by
  obtain ⟨ys, n, _, _, _, hyl, hall⟩ := DataW.trod_struct Tryz.underlying62 h
  match cs, hl with
  | [c0, c1, c2], _ =>
    have g0 : DataW.trod enc Tryz.prog w 0 (fun _ => true) held n 9 [c0] = ys[0]? := by
      have g := hall 0 _ rfl
      change DataW.trod enc Tryz.prog w 0 (fun _ => true) held n 9 (([c0, c1, c2].drop 0).take (Tryz.prog.cellsOf 9)) = ys[0]? at g
      rw [oc_str] at g
      exact g
    rw [List.getElem?_eq_getElem (by rw [hyl]; decide)] at g0
    have g1 : DataW.trod enc Tryz.prog w 0 (fun _ => true) held n 9 [c1] = ys[1]? := by
      have g := hall 1 _ rfl
      change DataW.trod enc Tryz.prog w 0 (fun _ => true) held n 9 (([c0, c1, c2].drop 1).take (Tryz.prog.cellsOf 9)) = ys[1]? at g
      rw [oc_str] at g
      exact g
    rw [List.getElem?_eq_getElem (by rw [hyl]; decide)] at g1
    have g2 : DataW.trod enc Tryz.prog w 0 (fun _ => true) held n 4 [c2] = ys[2]? := by
      have g := hall 2 _ rfl
      change DataW.trod enc Tryz.prog w 0 (fun _ => true) held n 4 (([c0, c1, c2].drop 2).take (Tryz.prog.cellsOf 4)) = ys[2]? at g
      rw [oc_bool] at g
      exact g
    rw [List.getElem?_eq_getElem (by rw [hyl]; decide)] at g2
    obtain ⟨z0, k0, e0⟩ := open_str g0
    obtain ⟨z1, k1, e1⟩ := open_str g1
    obtain ⟨z2, e2, _⟩ := DataW.trod_bool Tryz.underlying4 g2
    simp only [List.cons.injEq, and_true] at e0
    subst e0
    simp only [List.cons.injEq, and_true] at e1
    subst e1
    simp only [List.cons.injEq, and_true] at e2
    subst e2
    exact ⟨⟨z0, z1, z2⟩, ⟨k0, k1⟩, _, rfl, rfl⟩
theorem open_lfld {H : Type} {enc : TypeId × Value → H} {w : World} {held : Bool} {fuel : Nat} {cs : List Value} {x : DataW H × List MemPlace} (h : DataW.trod enc Tryz.prog w 0 (fun _ => true) held fuel 23 cs = some x) :
    ∃ (v : Value) (l : List Fld), cs = [v] ∧ Src 3 FldR Anyw w v l ∧ (∀ z ∈ l, (fun z : Fld => strOk z.name ∧ strOk z.kind) z) ∧ l.length ≤ 9223372036854775807 :=
  elems_of (p := fun z : Fld => strOk z.name ∧ strOk z.kind) Tryz.underlying23 oc_fld (by decide) h (fun _ cs' _ hl ht => open_fld hl ht)
theorem open_mth {H : Type} {enc : TypeId × Value → H} {w : World} {held : Bool} {fuel : Nat} {cs : List Value} {x : DataW H × List MemPlace} (hl : cs.length = 7)
    (h : DataW.trod enc Tryz.prog w 0 (fun _ => true) held fuel 33 cs = some x) : ∃ z : Mth, (z.held ∧ z.Fit ∧ ∀ y ∈ z.code, strOk y.op) ∧ ∃ v : Value, MthR Anyw w z v ∧ v.cells.toList = cs := by
  obtain ⟨ys, n, _, _, _, hyl, hall⟩ := DataW.trod_struct Tryz.underlying33 h
  match cs, hl with
  | [c0, c1, c2, c3, c4, c5, c6], _ =>
    have g0 : DataW.trod enc Tryz.prog w 0 (fun _ => true) held n 9 [c0] = ys[0]? := by
      have g := hall 0 _ rfl
      change DataW.trod enc Tryz.prog w 0 (fun _ => true) held n 9 (([c0, c1, c2, c3, c4, c5, c6].drop 0).take (Tryz.prog.cellsOf 9)) = ys[0]? at g
      rw [oc_str] at g
      exact g
    rw [List.getElem?_eq_getElem (by rw [hyl]; decide)] at g0
    have g1 : DataW.trod enc Tryz.prog w 0 (fun _ => true) held n 22 [c1] = ys[1]? := by
      have g := hall 1 _ rfl
      change DataW.trod enc Tryz.prog w 0 (fun _ => true) held n 22 (([c0, c1, c2, c3, c4, c5, c6].drop 1).take (Tryz.prog.cellsOf 22)) = ys[1]? at g
      rw [oc_lstr] at g
      exact g
    rw [List.getElem?_eq_getElem (by rw [hyl]; decide)] at g1
    have g2 : DataW.trod enc Tryz.prog w 0 (fun _ => true) held n 9 [c2] = ys[2]? := by
      have g := hall 2 _ rfl
      change DataW.trod enc Tryz.prog w 0 (fun _ => true) held n 9 (([c0, c1, c2, c3, c4, c5, c6].drop 2).take (Tryz.prog.cellsOf 9)) = ys[2]? at g
      rw [oc_str] at g
      exact g
    rw [List.getElem?_eq_getElem (by rw [hyl]; decide)] at g2
    have g3 : DataW.trod enc Tryz.prog w 0 (fun _ => true) held n 4 [c3] = ys[3]? := by
      have g := hall 3 _ rfl
      change DataW.trod enc Tryz.prog w 0 (fun _ => true) held n 4 (([c0, c1, c2, c3, c4, c5, c6].drop 3).take (Tryz.prog.cellsOf 4)) = ys[3]? at g
      rw [oc_bool] at g
      exact g
    rw [List.getElem?_eq_getElem (by rw [hyl]; decide)] at g3
    have g4 : DataW.trod enc Tryz.prog w 0 (fun _ => true) held n 3 [c4] = ys[4]? := by
      have g := hall 4 _ rfl
      change DataW.trod enc Tryz.prog w 0 (fun _ => true) held n 3 (([c0, c1, c2, c3, c4, c5, c6].drop 4).take (Tryz.prog.cellsOf 3)) = ys[4]? at g
      rw [oc_int] at g
      exact g
    rw [List.getElem?_eq_getElem (by rw [hyl]; decide)] at g4
    have g5 : DataW.trod enc Tryz.prog w 0 (fun _ => true) held n 30 [c5] = ys[5]? := by
      have g := hall 5 _ rfl
      change DataW.trod enc Tryz.prog w 0 (fun _ => true) held n 30 (([c0, c1, c2, c3, c4, c5, c6].drop 5).take (Tryz.prog.cellsOf 30)) = ys[5]? at g
      rw [oc_lins] at g
      exact g
    rw [List.getElem?_eq_getElem (by rw [hyl]; decide)] at g5
    have g6 : DataW.trod enc Tryz.prog w 0 (fun _ => true) held n 31 [c6] = ys[6]? := by
      have g := hall 6 _ rfl
      change DataW.trod enc Tryz.prog w 0 (fun _ => true) held n 31 (([c0, c1, c2, c3, c4, c5, c6].drop 6).take (Tryz.prog.cellsOf 31)) = ys[6]? at g
      rw [oc_lcat] at g
      exact g
    rw [List.getElem?_eq_getElem (by rw [hyl]; decide)] at g6
    obtain ⟨z0, k0, e0⟩ := open_str g0
    obtain ⟨v1, z1, e1, q1, k1, n1⟩ := open_lstr g1
    obtain ⟨z2, k2, e2⟩ := open_str g2
    obtain ⟨z3, e3, _⟩ := DataW.trod_bool Tryz.underlying4 g3
    obtain ⟨z4, e4, _, k4⟩ := DataW.trod_int Tryz.underlying3 g4
    obtain ⟨v5, z5, e5, q5, k5, n5⟩ := open_lins g5
    obtain ⟨v6, z6, e6, q6, k6, n6⟩ := open_lcat g6
    simp only [List.cons.injEq, and_true] at e0
    subst e0
    simp only [List.cons.injEq, and_true] at e1
    subst e1
    simp only [List.cons.injEq, and_true] at e2
    subst e2
    simp only [List.cons.injEq, and_true] at e3
    subst e3
    simp only [List.cons.injEq, and_true] at e4
    subst e4
    simp only [List.cons.injEq, and_true] at e5
    subst e5
    simp only [List.cons.injEq, and_true] at e6
    subst e6
    exact ⟨⟨z0, z1, z2, z3, z4, z5, z6⟩, ⟨⟨bounds_i64 k4, fun y hy => (k5 y hy).1, fun y hy => (k6 y hy).1⟩, ⟨k0, k2, k1, fun y hy => (k5 y hy).2.2, fun y hy => (k6 y hy).2, n1, n5, n6⟩, fun y hy => (k5 y hy).2.1⟩, _, ⟨_, _, _, rfl, q1, q5, q6⟩, rfl⟩
theorem open_lmth {H : Type} {enc : TypeId × Value → H} {w : World} {held : Bool} {fuel : Nat} {cs : List Value} {x : DataW H × List MemPlace} (h : DataW.trod enc Tryz.prog w 0 (fun _ => true) held fuel 24 cs = some x) :
    ∃ (v : Value) (l : List Mth), cs = [v] ∧ Src 7 MthR Anyw w v l ∧ (∀ z ∈ l, (fun z : Mth => z.held ∧ z.Fit ∧ ∀ y ∈ z.code, strOk y.op) z) ∧ l.length ≤ 9223372036854775807 :=
  elems_of (p := fun z : Mth => z.held ∧ z.Fit ∧ ∀ y ∈ z.code, strOk y.op) Tryz.underlying24 oc_mth (by decide) h (fun _ cs' _ hl ht => open_mth hl ht)
def Cls.real (c : Cls) : Prop := c.held ∧ c.Fit ∧ ∀ m ∈ c.mths, ∀ y ∈ m.code, strOk y.op
theorem open_cls {H : Type} {enc : TypeId × Value → H} {w : World} {held : Bool} {fuel : Nat} {cs : List Value} {x : DataW H × List MemPlace} (hl : cs.length = 8)
    (h : DataW.trod enc Tryz.prog w 0 (fun _ => true) held fuel 26 cs = some x) : ∃ z : Cls, z.real ∧ ∃ v : Value, ClsR Anyw w z v ∧ v.cells.toList = cs := by
  obtain ⟨ys, n, _, _, _, hyl, hall⟩ := DataW.trod_struct Tryz.underlying26 h
  match cs, hl with
  | [c0, c1, c2, c3, c4, c5, c6, c7], _ =>
    have g0 : DataW.trod enc Tryz.prog w 0 (fun _ => true) held n 9 [c0] = ys[0]? := by
      have g := hall 0 _ rfl
      change DataW.trod enc Tryz.prog w 0 (fun _ => true) held n 9 (([c0, c1, c2, c3, c4, c5, c6, c7].drop 0).take (Tryz.prog.cellsOf 9)) = ys[0]? at g
      rw [oc_str] at g
      exact g
    rw [List.getElem?_eq_getElem (by rw [hyl]; decide)] at g0
    have g1 : DataW.trod enc Tryz.prog w 0 (fun _ => true) held n 9 [c1] = ys[1]? := by
      have g := hall 1 _ rfl
      change DataW.trod enc Tryz.prog w 0 (fun _ => true) held n 9 (([c0, c1, c2, c3, c4, c5, c6, c7].drop 1).take (Tryz.prog.cellsOf 9)) = ys[1]? at g
      rw [oc_str] at g
      exact g
    rw [List.getElem?_eq_getElem (by rw [hyl]; decide)] at g1
    have g2 : DataW.trod enc Tryz.prog w 0 (fun _ => true) held n 22 [c2] = ys[2]? := by
      have g := hall 2 _ rfl
      change DataW.trod enc Tryz.prog w 0 (fun _ => true) held n 22 (([c0, c1, c2, c3, c4, c5, c6, c7].drop 2).take (Tryz.prog.cellsOf 22)) = ys[2]? at g
      rw [oc_lstr] at g
      exact g
    rw [List.getElem?_eq_getElem (by rw [hyl]; decide)] at g2
    have g3 : DataW.trod enc Tryz.prog w 0 (fun _ => true) held n 4 [c3] = ys[3]? := by
      have g := hall 3 _ rfl
      change DataW.trod enc Tryz.prog w 0 (fun _ => true) held n 4 (([c0, c1, c2, c3, c4, c5, c6, c7].drop 3).take (Tryz.prog.cellsOf 4)) = ys[3]? at g
      rw [oc_bool] at g
      exact g
    rw [List.getElem?_eq_getElem (by rw [hyl]; decide)] at g3
    have g4 : DataW.trod enc Tryz.prog w 0 (fun _ => true) held n 4 [c4] = ys[4]? := by
      have g := hall 4 _ rfl
      change DataW.trod enc Tryz.prog w 0 (fun _ => true) held n 4 (([c0, c1, c2, c3, c4, c5, c6, c7].drop 4).take (Tryz.prog.cellsOf 4)) = ys[4]? at g
      rw [oc_bool] at g
      exact g
    rw [List.getElem?_eq_getElem (by rw [hyl]; decide)] at g4
    have g5 : DataW.trod enc Tryz.prog w 0 (fun _ => true) held n 4 [c5] = ys[5]? := by
      have g := hall 5 _ rfl
      change DataW.trod enc Tryz.prog w 0 (fun _ => true) held n 4 (([c0, c1, c2, c3, c4, c5, c6, c7].drop 5).take (Tryz.prog.cellsOf 4)) = ys[5]? at g
      rw [oc_bool] at g
      exact g
    rw [List.getElem?_eq_getElem (by rw [hyl]; decide)] at g5
    have g6 : DataW.trod enc Tryz.prog w 0 (fun _ => true) held n 23 [c6] = ys[6]? := by
      have g := hall 6 _ rfl
      change DataW.trod enc Tryz.prog w 0 (fun _ => true) held n 23 (([c0, c1, c2, c3, c4, c5, c6, c7].drop 6).take (Tryz.prog.cellsOf 23)) = ys[6]? at g
      rw [oc_lfld] at g
      exact g
    rw [List.getElem?_eq_getElem (by rw [hyl]; decide)] at g6
    have g7 : DataW.trod enc Tryz.prog w 0 (fun _ => true) held n 24 [c7] = ys[7]? := by
      have g := hall 7 _ rfl
      change DataW.trod enc Tryz.prog w 0 (fun _ => true) held n 24 (([c0, c1, c2, c3, c4, c5, c6, c7].drop 7).take (Tryz.prog.cellsOf 24)) = ys[7]? at g
      rw [oc_lmth] at g
      exact g
    rw [List.getElem?_eq_getElem (by rw [hyl]; decide)] at g7
    obtain ⟨z0, k0, e0⟩ := open_str g0
    obtain ⟨z1, k1, e1⟩ := open_str g1
    obtain ⟨v2, z2, e2, q2, k2, n2⟩ := open_lstr g2
    obtain ⟨z3, e3, _⟩ := DataW.trod_bool Tryz.underlying4 g3
    obtain ⟨z4, e4, _⟩ := DataW.trod_bool Tryz.underlying4 g4
    obtain ⟨z5, e5, _⟩ := DataW.trod_bool Tryz.underlying4 g5
    obtain ⟨v6, z6, e6, q6, k6, n6⟩ := open_lfld g6
    obtain ⟨v7, z7, e7, q7, k7, n7⟩ := open_lmth g7
    simp only [List.cons.injEq, and_true] at e0
    subst e0
    simp only [List.cons.injEq, and_true] at e1
    subst e1
    simp only [List.cons.injEq, and_true] at e2
    subst e2
    simp only [List.cons.injEq, and_true] at e3
    subst e3
    simp only [List.cons.injEq, and_true] at e4
    subst e4
    simp only [List.cons.injEq, and_true] at e5
    subst e5
    simp only [List.cons.injEq, and_true] at e6
    subst e6
    simp only [List.cons.injEq, and_true] at e7
    subst e7
    exact ⟨⟨z0, z1, z2, z3, z4, z5, z6, z7⟩, ⟨fun y hy => (k7 y hy).1, ⟨k0, k1, k2, k6, fun y hy => (k7 y hy).2.1, n2, n6, n7⟩, fun y hy => (k7 y hy).2.2⟩, _, ⟨_, _, _, rfl, q2, q6, q7⟩, rfl⟩
theorem open_lcls {H : Type} {enc : TypeId × Value → H} {w : World} {held : Bool} {fuel : Nat} {cs : List Value} {x : DataW H × List MemPlace} (h : DataW.trod enc Tryz.prog w 0 (fun _ => true) held fuel 37 cs = some x) :
    ∃ (v : Value) (l : List Cls), cs = [v] ∧ Src 8 ClsR Anyw w v l ∧ (∀ z ∈ l, (fun z : Cls => z.real) z) ∧ l.length ≤ 9223372036854775807 :=
  elems_of (p := fun z : Cls => z.real) Tryz.underlying37 oc_cls (by decide) h (fun _ cs' _ hl ht => open_cls hl ht)
theorem classes_of {H : Type} {enc : TypeId × Value → H} {w : World} {held : Bool} {v : Value} {d : DataW H} {p : List MemPlace} {base : Nat} (hv : Value.okWide Tryz.prog w .any base 37 v)
    (h : DataW.Trod enc Tryz.prog w 0 (fun _ => true) held 37 v d p) : ∃ l : List Cls, (∀ c ∈ l, c.real) ∧ Src 8 ClsR Anyw w v l ∧ l.length ≤ 9223372036854775807 := by
  obtain ⟨ao, len, cap, rfl⟩ := okWide_slice Tryz.underlying37 hv
  obtain ⟨fuel, hf⟩ := h
  obtain ⟨u, l, hu, hs, hp, hn⟩ := open_lcls hf
  have hc : (Value.slice ao len cap).cells.toList = [Value.slice ao len cap] := rfl
  rw [hc] at hu
  simp only [List.cons.injEq, and_true] at hu
  exact ⟨l, hp, hu ▸ hs, hn⟩
end Go.Proofs.YtpincofjopmaaaaGreatDoor
namespace Go.Proofs.YtpincofjopmaaaaGreatDoor
open Go.Shelf Go.RowKit Go.Lib
theorem own : ownKnob Tryz.prog.godebug = none := by kernel_rfl
theorem first_eq : Rows.laid_unicode_utf8_first = Lib.firstData := by kernel_rfl
theorem accept_eq : (Rows.laid_unicode_utf8_acceptRanges : DataW Unit) = Lib.acceptData := by kernel_rfl
def opsData : DataW Unit := .agg (opTab.map fun x => .agg [.lit (.string x.1), .lit (.int .i64 (x.2 : Nat))])
theorem ops_eq : (Rows.laid_squinch_code_operators : DataW Unit) = opsData := by kernel_rfl
theorem tabs_of {W : World} (h3 : VarReads Tryz.prog W "unicode/utf8.first" Rows.laid_unicode_utf8_first) (h4 : VarReads Tryz.prog W "unicode/utf8.acceptRanges" Rows.laid_unicode_utf8_acceptRanges) : Tabs W := by
  rw [accept_eq] at h4
  rw [first_eq] at h3
  exact utf8Tabs_of_readsT (U8Types.of196 laysValid) ⟨by kernel_rfl, by kernel_rfl, by kernel_rfl, by kernel_rfl, by kernel_rfl, by kernel_rfl, by kernel_rfl⟩ h3 h4
theorem pair_at : ∀ (l : List (List UInt8 × Nat)) (i : Nat) (h : i < l.length), (l.flatMap fun x => [Value.string (S x.1), Value.int .i64 (x.2 : Nat)])[2 * i]? = some (.string (S l[i].1)) ∧ (l.flatMap fun x => [Value.string (S x.1), Value.int .i64 (x.2 : Nat)])[2 * i + 1]? = some (.int .i64 (l[i].2 : Nat))
  | x :: l, 0, _ => ⟨rfl, rfl⟩
  | x :: l, i + 1, h => by
    have ih := pair_at l i (by simpa using h)
    rw [List.flatMap_cons, show 2 * (i + 1) = 2 * i + 2 from by omega]
    exact ⟨ih.1, ih.2⟩
theorem pair_len (l : List (List UInt8 × Nat)) : (l.flatMap fun x => [Value.string (S x.1), Value.int .i64 (x.2 : Nat)]).length = 2 * l.length := by
  induction l with
  | nil => rfl
  | cons x l ih => rw [List.flatMap_cons, List.length_append, ih, List.length_cons]; simp; omega
theorem cells_oper : Tryz.prog.cellsOf 242 = 2 := by kernel_rfl
theorem cells_str1 : Tryz.prog.cellsOf 9 = 1 := by kernel_rfl
theorem cells_operand : Tryz.prog.cellsOf 240 = 1 := by kernel_rfl
set_option maxRecDepth 100000 in
theorem oper_of {w : World} {fuel : Nat} {cs : List Value} {p : List MemPlace} {x : List UInt8 × Nat} (hl : cs.length = 2)
    (h : DataW.trod (fun _ => ()) Tryz.prog w 0 (fun _ => true) false fuel 242 cs = some (.agg [.lit (.string x.1), .lit (.int .i64 (x.2 : Nat))], p)) : cs = [.string (S x.1), .int .i64 (x.2 : Nat)] := by
  obtain ⟨ys, n, _, hx, _, hyl, hall⟩ := DataW.trod_struct Tryz.underlying242 h
  match cs, hl with
  | [c0, c1], _ =>
    have g0 : DataW.trod (fun _ => ()) Tryz.prog w 0 (fun _ => true) false n 9 [c0] = ys[0]? := by
      have g := hall 0 _ rfl
      change DataW.trod (fun _ => ()) Tryz.prog w 0 (fun _ => true) false n 9 (([c0, c1].drop 0).take (Tryz.prog.cellsOf 9)) = ys[0]? at g
      rw [cells_str1] at g
      exact g
    have g1 : DataW.trod (fun _ => ()) Tryz.prog w 0 (fun _ => true) false n 240 [c1] = ys[1]? := by
      have g := hall 1 _ rfl
      change DataW.trod (fun _ => ()) Tryz.prog w 0 (fun _ => true) false n 240 (([c0, c1].drop 1).take (Tryz.prog.cellsOf 240)) = ys[1]? at g
      rw [cells_operand] at g
      exact g
    have hy : ys.map (·.1) = [.lit (.string x.1), .lit (.int .i64 (x.2 : Nat))] := by
      have := congrArg Prod.fst hx
      simpa using this.symm
    match ys, hy with
    | [y0, y1], hy =>
      obtain ⟨s, e0, q0, _⟩ := DataW.trod_string Tryz.underlying9 g0
      obtain ⟨z, e1, q1, _⟩ := DataW.trod_int Tryz.underlying240 g1
      simp only [List.cons.injEq, and_true] at e0 e1
      subst e0 e1 q0 q1
      simp only [List.map_cons, List.map_nil, List.cons.injEq, and_true] at hy
      obtain ⟨h0, h1⟩ := hy
      injection h0 with h0
      injection h0 with h0
      injection h1 with h1
      injection h1 with _ h1
      rw [← h0, ← h1, S_data]
set_option maxRecDepth 100000 in
theorem optab_of {W : World} (h : VarReads Tryz.prog W "squinch/code.operators" Rows.laid_squinch_code_operators) : OpTab W := by
  rw [ops_eq] at h
  obtain ⟨g, t, cs, fuel, p, hg, hty, hvar, hd⟩ := h
  obtain rfl : 4 = g := Option.some.inj ((show Tryz.prog.globalNamed "squinch/code.operators" = some 4 by kernel_rfl).symm.trans hg)
  obtain rfl : 287 = t := Option.some.inj ((show (Tryz.prog.globals[4]?).map (·.type) = some 287 by kernel_rfl).symm.trans hty)
  have each : ∀ i (hi : i < opTab.length), cs.toList[2 * i]? = some (.string (S opTab[i].1)) ∧ cs.toList[2 * i + 1]? = some (.int .i64 (opTab[i].2 : Nat)) := by
    intro i hi
    obtain ⟨fuel', d, q, hdi, he⟩ := array_elem Tryz.underlying287 hd i (by rw [opTab_len] at hi; exact hi)
    rw [List.getElem?_map, List.getElem?_eq_getElem hi, Option.map_some, Option.some.injEq] at hdi
    subst hdi
    rw [cells_oper] at he
    have hlen : ((cs.toList.drop (i * 2)).take 2).length = 2 := by
      obtain ⟨_, _, _, _, hl, _, _⟩ := DataW.trod_struct Tryz.underlying242 he
      rw [hl, cells_oper]
    have hc := oper_of (x := opTab[i]) hlen he
    have e0 := congrArg (·[0]?) hc
    have e1 := congrArg (·[1]?) hc
    simp only [List.getElem?_take, List.getElem?_drop] at e0 e1
    refine ⟨?_, ?_⟩
    · simpa [Nat.mul_comm] using e0
    · simpa [Nat.mul_comm] using e1
  intro j v hj
  have hjl : j < 84 := by
    rcases Nat.lt_or_ge j 84 with h | h
    · exact h
    · rw [List.getElem?_eq_none (by unfold opCells; rw [pair_len, opTab_len]; exact h)] at hj; cases hj
  have hcell : W.cell? ⟨4, 0 + j, none⟩ = cs.toList[j]? := by
    rw [Nat.zero_add, World.var?_cell hg hvar j, Array.getElem?_toList]
  have hi : j / 2 < opTab.length := by rw [opTab_len]; omega
  have hA := pair_at opTab (j / 2) hi
  have hB := each (j / 2) hi
  unfold opCells at hj
  rw [hcell]
  rcases (show j = 2 * (j / 2) ∨ j = 2 * (j / 2) + 1 by omega) with h | h
  · rw [h] at hj ⊢
    rw [hB.1, ← hA.1]
    exact hj
  · rw [h] at hj ⊢
    rw [hB.2, ← hA.2]
    exact hj
end Go.Proofs.YtpincofjopmaaaaGreatDoor
namespace Go.Proofs.YtpincofjopmaaaaGreatDoor
open Go.Shelf Go.RowKit Go.Lib
def faultsData : DataW Unit := .agg (faultsL.map fun n => .lit (.string n))
theorem faults_eq : (Rows.laid_squinch_hier_faults : DataW Unit) = faultsData := by kernel_rfl
theorem faultsL_len : faultsL.length = 6 := rfl
set_option maxRecDepth 100000 in
theorem faulttab_of {W : World} (h : VarReads Tryz.prog W "squinch/hier.faults" Rows.laid_squinch_hier_faults) : FaultTab W := by
  rw [faults_eq] at h
  obtain ⟨g, t, cs, fuel, p, hg, hty, hvar, hd⟩ := h
  obtain rfl : 0 = g := Option.some.inj ((show Tryz.prog.globalNamed "squinch/hier.faults" = some 0 by kernel_rfl).symm.trans hg)
  obtain rfl : 124 = t := Option.some.inj ((show (Tryz.prog.globals[0]?).map (·.type) = some 124 by kernel_rfl).symm.trans hty)
  have each : ∀ i (hi : i < faultsL.length), cs.toList[i]? = some (.string (S faultsL[i])) := by
    intro i hi
    obtain ⟨fuel', d, q, hdi, he⟩ := array_elem Tryz.underlying124 hd i (by rw [faultsL_len] at hi; exact hi)
    rw [List.getElem?_map, List.getElem?_eq_getElem hi, Option.map_some, Option.some.injEq] at hdi
    subst hdi
    rw [cells_str1] at he
    obtain ⟨s, e0, q0, _⟩ := DataW.trod_string Tryz.underlying9 he
    have e1 := congrArg (·[0]?) e0
    simp only [List.getElem?_take, List.getElem?_drop] at e1
    have e2 : cs.toList[i]? = some (.string s) := by simpa using e1
    have q1 := congrArg Prod.fst q0
    simp only at q1
    injection q1 with q1
    injection q1 with q1
    rw [e2, q1, S_data]
  intro j v hj
  have hjl : j < faultsL.length := by
    rcases Nat.lt_or_ge j faultsL.length with h | h
    · exact h
    · rw [List.getElem?_eq_none (by unfold faultCells; rw [List.length_map]; exact h)] at hj; cases hj
  have hcell : W.cell? ⟨0, 0 + j, none⟩ = cs.toList[j]? := by
    rw [Nat.zero_add, World.var?_cell hg hvar j, Array.getElem?_toList]
  unfold faultCells at hj
  rw [List.getElem?_map, List.getElem?_eq_getElem hjl, Option.map_some] at hj
  rw [hcell, each j hjl]
  exact hj
noncomputable def laidWorld4 (os : Os) : World :=
  let w0 := World.holding Tryz.prog os ⟨#[], #[], []⟩
  let put (h : Array Obj) (g : Nat) (cs : Array Value) : Array Obj := h.modify g fun
    | .cells _ t frozen => .cells cs t frozen
    | o => o
  let h1 := put w0.heap 2 (Lib.firstTab.map fun z => Value.int .u8 z).toArray
  let h2 := put h1 3 ((List.range 16).flatMap fun i => [Value.int .u8 (Lib.accLo i), Value.int .u8 (Lib.accHi i)]).toArray
  let h3 := put h2 4 opCells.toArray
  let h4 := put h3 0 faultCells.toArray
  { w0 with heap := h4 }
def theLaid4 : List (String × DataW Unit) := [("unicode/utf8.acceptRanges", Rows.laid_unicode_utf8_acceptRanges), ("squinch/code.operators", Rows.laid_squinch_code_operators), ("squinch/hier.faults", Rows.laid_squinch_hier_faults), ("unicode/utf8.first", Rows.laid_unicode_utf8_first)]
structure HT6 (W : World) : Prop where
  ct : CT W
  ft : FaultTab W
theorem ht6_of {W : World} (hL : laidMet Tryz.prog theLaid4 W) : HT6 W :=
  ⟨⟨tabs_of (Lib.laidMet.reads hL (.tail _ (.tail _ (.tail _ (.head _))))) (Lib.laidMet.reads hL (.head _)), optab_of (Lib.laidMet.reads hL (.tail _ (.head _)))⟩, faulttab_of (Lib.laidMet.reads hL (.tail _ (.tail _ (.head _))))⟩
theorem laid_met4 (os : Os) (args : Array Value) : laidMet Tryz.prog theLaid4 ((laidWorld4 os).forCall (fun _ _ => 0) ⟨#[], args, []⟩).memory :=
  (LaidIn.of_run (l := theLaid4) [2, 3, 4, 0] 8 (by kernel_rfl) (by kernel_rfl) (by kernel_rfl) (by kernel_rfl)).met
end Go.Proofs.YtpincofjopmaaaaGreatDoor
namespace Go.Proofs.YtpincofjopmaaaaGreatDoor
open Go.RowKit
theorem Box.setTo {w : World} {B : Nat} {cs : Array Value} {t : TypeId} (h : Box w B cs t) (j : Nat) (u : Value) (cs' : Array Value) (e : cs.setIfInBounds j u = cs') : Box (w.setCell ⟨B, j, none⟩ u) B cs' t := e ▸ h.set j u
theorem set7 {w : World} {B : Nat} {t : TypeId} {a0 a1 a2 a3 a4 a5 a6 : Value} (h : Box w B #[a0, a1, a2, a3, a4, a5, a6] t) (v0 v1 v2 v3 v4 v5 v6 : Value) :
    Box (((((((w.setCell ⟨B, 0, none⟩ v0).setCell ⟨B, 1, none⟩ v1).setCell ⟨B, 2, none⟩ v2).setCell ⟨B, 3, none⟩ v3).setCell ⟨B, 4, none⟩ v4).setCell ⟨B, 5, none⟩ v5).setCell ⟨B, 6, none⟩ v6) B #[v0, v1, v2, v3, v4, v5, v6] t ∧ Only (fun i => i = B) w (((((((w.setCell ⟨B, 0, none⟩ v0).setCell ⟨B, 1, none⟩ v1).setCell ⟨B, 2, none⟩ v2).setCell ⟨B, 3, none⟩ v3).setCell ⟨B, 4, none⟩ v4).setCell ⟨B, 5, none⟩ v5).setCell ⟨B, 6, none⟩ v6) :=
  ⟨(((((((h.setTo 0 v0 #[v0, a1, a2, a3, a4, a5, a6] rfl).setTo 1 v1 #[v0, v1, a2, a3, a4, a5, a6] rfl).setTo 2 v2 #[v0, v1, v2, a3, a4, a5, a6] rfl).setTo 3 v3 #[v0, v1, v2, v3, a4, a5, a6] rfl).setTo 4 v4 #[v0, v1, v2, v3, v4, a5, a6] rfl).setTo 5 v5 #[v0, v1, v2, v3, v4, v5, a6] rfl).setTo 6 v6 #[v0, v1, v2, v3, v4, v5, v6] rfl), (((((((Only.refl (fun i => i = B) w).setCell (p := ⟨B, 0, none⟩) rfl v0).setCell (p := ⟨B, 1, none⟩) rfl v1).setCell (p := ⟨B, 2, none⟩) rfl v2).setCell (p := ⟨B, 3, none⟩) rfl v3).setCell (p := ⟨B, 4, none⟩) rfl v4).setCell (p := ⟨B, 5, none⟩) rfl v5).setCell (p := ⟨B, 6, none⟩) rfl v6⟩
theorem cells7 {w : World} {B : Nat} {t : TypeId} {a0 a1 a2 a3 a4 a5 a6 : Value} (h : Box w B #[a0, a1, a2, a3, a4, a5, a6] t) : w.cell? ⟨B, 0, none⟩ = some a0 ∧ w.cell? ⟨B, 1, none⟩ = some a1 ∧ w.cell? ⟨B, 2, none⟩ = some a2 ∧ w.cell? ⟨B, 3, none⟩ = some a3 ∧ w.cell? ⟨B, 4, none⟩ = some a4 ∧ w.cell? ⟨B, 5, none⟩ = some a5 ∧ w.cell? ⟨B, 6, none⟩ = some a6 := ⟨h.cell 0 rfl, h.cell 1 rfl, h.cell 2 rfl, h.cell 3 rfl, h.cell 4 rfl, h.cell 5 rfl, h.cell 6 rfl⟩
theorem free7 {w : World} {B : Nat} {t : TypeId} {cs : Array Value} (h : Box w B cs t) : w.frozen? ⟨B, 0, none⟩ = false ∧ w.frozen? ⟨B, 1, none⟩ = false ∧ w.frozen? ⟨B, 2, none⟩ = false ∧ w.frozen? ⟨B, 3, none⟩ = false ∧ w.frozen? ⟨B, 4, none⟩ = false ∧ w.frozen? ⟨B, 5, none⟩ = false ∧ w.frozen? ⟨B, 6, none⟩ = false := ⟨h.free 0, h.free 1, h.free 2, h.free 3, h.free 4, h.free 5, h.free 6⟩
theorem set8 {w : World} {B : Nat} {t : TypeId} {a0 a1 a2 a3 a4 a5 a6 a7 : Value} (h : Box w B #[a0, a1, a2, a3, a4, a5, a6, a7] t) (v0 v1 v2 v3 v4 v5 v6 v7 : Value) :
    Box ((((((((w.setCell ⟨B, 0, none⟩ v0).setCell ⟨B, 1, none⟩ v1).setCell ⟨B, 2, none⟩ v2).setCell ⟨B, 3, none⟩ v3).setCell ⟨B, 4, none⟩ v4).setCell ⟨B, 5, none⟩ v5).setCell ⟨B, 6, none⟩ v6).setCell ⟨B, 7, none⟩ v7) B #[v0, v1, v2, v3, v4, v5, v6, v7] t ∧ Only (fun i => i = B) w ((((((((w.setCell ⟨B, 0, none⟩ v0).setCell ⟨B, 1, none⟩ v1).setCell ⟨B, 2, none⟩ v2).setCell ⟨B, 3, none⟩ v3).setCell ⟨B, 4, none⟩ v4).setCell ⟨B, 5, none⟩ v5).setCell ⟨B, 6, none⟩ v6).setCell ⟨B, 7, none⟩ v7) :=
  ⟨((((((((h.setTo 0 v0 #[v0, a1, a2, a3, a4, a5, a6, a7] rfl).setTo 1 v1 #[v0, v1, a2, a3, a4, a5, a6, a7] rfl).setTo 2 v2 #[v0, v1, v2, a3, a4, a5, a6, a7] rfl).setTo 3 v3 #[v0, v1, v2, v3, a4, a5, a6, a7] rfl).setTo 4 v4 #[v0, v1, v2, v3, v4, a5, a6, a7] rfl).setTo 5 v5 #[v0, v1, v2, v3, v4, v5, a6, a7] rfl).setTo 6 v6 #[v0, v1, v2, v3, v4, v5, v6, a7] rfl).setTo 7 v7 #[v0, v1, v2, v3, v4, v5, v6, v7] rfl), ((((((((Only.refl (fun i => i = B) w).setCell (p := ⟨B, 0, none⟩) rfl v0).setCell (p := ⟨B, 1, none⟩) rfl v1).setCell (p := ⟨B, 2, none⟩) rfl v2).setCell (p := ⟨B, 3, none⟩) rfl v3).setCell (p := ⟨B, 4, none⟩) rfl v4).setCell (p := ⟨B, 5, none⟩) rfl v5).setCell (p := ⟨B, 6, none⟩) rfl v6).setCell (p := ⟨B, 7, none⟩) rfl v7⟩
theorem cells8 {w : World} {B : Nat} {t : TypeId} {a0 a1 a2 a3 a4 a5 a6 a7 : Value} (h : Box w B #[a0, a1, a2, a3, a4, a5, a6, a7] t) : w.cell? ⟨B, 0, none⟩ = some a0 ∧ w.cell? ⟨B, 1, none⟩ = some a1 ∧ w.cell? ⟨B, 2, none⟩ = some a2 ∧ w.cell? ⟨B, 3, none⟩ = some a3 ∧ w.cell? ⟨B, 4, none⟩ = some a4 ∧ w.cell? ⟨B, 5, none⟩ = some a5 ∧ w.cell? ⟨B, 6, none⟩ = some a6 ∧ w.cell? ⟨B, 7, none⟩ = some a7 := ⟨h.cell 0 rfl, h.cell 1 rfl, h.cell 2 rfl, h.cell 3 rfl, h.cell 4 rfl, h.cell 5 rfl, h.cell 6 rfl, h.cell 7 rfl⟩
theorem free8 {w : World} {B : Nat} {t : TypeId} {cs : Array Value} (h : Box w B cs t) : w.frozen? ⟨B, 0, none⟩ = false ∧ w.frozen? ⟨B, 1, none⟩ = false ∧ w.frozen? ⟨B, 2, none⟩ = false ∧ w.frozen? ⟨B, 3, none⟩ = false ∧ w.frozen? ⟨B, 4, none⟩ = false ∧ w.frozen? ⟨B, 5, none⟩ = false ∧ w.frozen? ⟨B, 6, none⟩ = false ∧ w.frozen? ⟨B, 7, none⟩ = false := ⟨h.free 0, h.free 1, h.free 2, h.free 3, h.free 4, h.free 5, h.free 6, h.free 7⟩
end Go.Proofs.YtpincofjopmaaaaGreatDoor
