/-
  The contract of the laws' few of layer 5: a class that isn't too great.
  Conditions: the class's parts lie in memory that was there before; lists that a machine may hold.
  A law's argument of type api.Class or []api.Class, opened: the classes that it reads as.
  Conditions: none of its own.
-/
import Derived.Test.YtpincofjopmaaaaGreatDoorM30
import Derived.Test.YtpincofjopmaaaaGreatDoorM15
import Derived.Test.YtpincofjopmaaaaGreatDoorM22
import Derived.Test.YtpincofjopmaaaaGreatDoorM02
import Derived.Deep.Slices
import Derived.Carry
import Derived.OpenShut
import Derived.Deep.DeepHandedRow
import Derived.ProofKit
namespace Go.Proofs.YtpincofjopmaaaaGreatDoor
open Go.RowKit
def Mth.great (m : Mth) : Bool := decide (40 < m.params.length) || (decide (250 < m.code.length) || decide (40 < m.cats.length))
def Cls.great (c : Cls) : Bool := decide (40 < c.like.length) || (decide (40 < c.flds.length) || (decide (40 < c.mths.length) || (decide (300 < c.name.length) || (decide (300 < c.sup.length) || c.mths.any Mth.great))))
theorem few_nums {c : Cls} (h : c.great = false) : c.like.length ≤ 40 ∧ c.flds.length ≤ 40 ∧ c.mths.length ≤ 40 ∧ c.name.length ≤ 300 ∧ c.sup.length ≤ 300 ∧ ∀ m ∈ c.mths, m.params.length ≤ 40 ∧ m.code.length ≤ 250 ∧ m.cats.length ≤ 40 := by
  unfold Cls.great at h
  simp only [Bool.or_eq_false_iff, decide_eq_false_iff_not, List.any_eq_false] at h
  obtain ⟨h1, h2, h3, h4, h5, h6⟩ := h
  refine ⟨by omega, by omega, by omega, by omega, by omega, fun m hm => ?_⟩
  have := h6 m hm
  unfold Mth.great at this
  simp only [Bool.or_eq_true, decide_eq_true_eq, not_or] at this
  omega
set_option maxHeartbeats 4000000 in
set_option maxRecDepth 100000 in
theorem cfew_any {A : Nat → Prop} (c : Cls) (v : Value) (w : World) (hv : ClsR A w c v) (hfit : c.Fit) :
    Calls Tryz.prog 14 #[v] w (Said (!c.great) w) := by
  obtain ⟨lv, fv, mv, rfl, hl, hf, hm⟩ := hv
  obtain ⟨lo, lc, rfl⟩ := hl.shape
  obtain ⟨fo, fc, rfl⟩ := hf.shape
  obtain ⟨mo, mc, rfl⟩ := hm.shape
  have hb0 : Below w.heap.size w (w.alloc (.cells #[.string (S c.name), .string (S c.sup), .slice lo c.like.length lc, .bool c.itf, .bool c.abs, .bool c.fin, .slice fo c.flds.length fc, .slice mo c.mths.length mc] 26)) := (Below.refl _ w).alloc (Nat.le_refl _) _
  have HB0 := Lib.hid hb0
  have HBX := Lib.hid (Box.new w #[.string (S c.name), .string (S c.sup), .slice lo c.like.length lc, .bool c.itf, .bool c.abs, .bool c.fin, .slice fo c.flds.length fc, .slice mo c.mths.length mc] 26)
  have HC := Lib.hid (Src.elem (MthR.st.below hm hb0))
  obtain ⟨n, hn⟩ : ∃ n, n = c.mths.length := ⟨_, rfl⟩
  have HN := Lib.hid hn
  have hn3 : n ≤ 9223372036854775807 := by rw [hn]; exact hfit.n3
  have hn1 := hfit.n1
  have hn2 := hfit.n2
  have z0 : ((S c.name).size : Int) = (c.name.length : Int) := by rw [S_size]
  have z1 : ((S c.sup).size : Int) = (c.sup.length : Int) := by rw [S_size]
  have hMA : (!c.great) = !(decide (40 < c.like.length) || (decide (40 < c.flds.length) || (decide (40 < n) || (decide (300 < c.name.length) || (decide (300 < c.sup.length) || c.mths.any Mth.great))))) := by rw [hn]; rfl
  have HMA := Lib.hid hMA
  rw [← hn] at hb0 HB0 HBX HC ⊢
  obtain ⟨R, hR⟩ : ∃ R, R = !c.great := ⟨_, rfl⟩
  rw [← hR] at HMA ⊢
  clear hl hf hm hb0 hn hMA hR hfit
  by_cases h1 : 40 < c.like.length
  · have ih1 : 40 < (c.like.length : Int) := by omega
    obtain rfl : R = false := by rw [HMA.out]; simp [h1]
    clear h1
    go_enter Tryz.func14, Tryz.ntmps14
    go_wp2
    go_ret
    exact ⟨rfl, HB0.out⟩
  · have ih1 : ¬ (40 < (c.like.length : Int)) := by omega
    by_cases h2 : 40 < c.flds.length
    · have ih2 : 40 < (c.flds.length : Int) := by omega
      obtain rfl : R = false := by rw [HMA.out]; simp [h1, h2]
      clear h1 h2
      go_enter Tryz.func14, Tryz.ntmps14
      go_wp2
      go_ret
      exact ⟨rfl, HB0.out⟩
    · have ih2 : ¬ (40 < (c.flds.length : Int)) := by omega
      by_cases h3 : 40 < n
      · have ih3 : 40 < (n : Int) := by omega
        obtain rfl : R = false := by rw [HMA.out]; simp [h1, h2, h3]
        clear h1 h2 h3
        go_enter Tryz.func14, Tryz.ntmps14
        go_wp2
        go_ret
        exact ⟨rfl, HB0.out⟩
      · have ih3 : ¬ (40 < (n : Int)) := by omega
        by_cases h4 : 300 < c.name.length
        · have ih4 : 300 < (c.name.length : Int) := by omega
          obtain rfl : R = false := by rw [HMA.out]; simp [h1, h2, h3, h4]
          clear h1 h2 h3 h4
          go_enter Tryz.func14, Tryz.ntmps14
          go_wp2
          go_ret
          exact ⟨rfl, HB0.out⟩
        · have ih4 : ¬ (300 < (c.name.length : Int)) := by omega
          by_cases h5 : 300 < c.sup.length
          · have ih5 : 300 < (c.sup.length : Int) := by omega
            obtain rfl : R = false := by rw [HMA.out]; simp [h1, h2, h3, h4, h5]
            clear h1 h2 h3 h4 h5
            go_enter Tryz.func14, Tryz.ntmps14
            go_wp2
            go_ret
            exact ⟨rfl, HB0.out⟩
          · have ih5 : ¬ (300 < (c.sup.length : Int)) := by omega
            rw [decide_eq_false h1, decide_eq_false h2, decide_eq_false h3, decide_eq_false h4, decide_eq_false h5] at HMA
            clear h1 h2 h3 h4 h5
            go_enter Tryz.func14, Tryz.ntmps14
            go_wp2
            generalize w.alloc (.cells #[.string (S c.name), .string (S c.sup), .slice lo c.like.length lc, .bool c.itf, .bool c.abs, .bool c.fin, .slice fo c.flds.length fc, .slice mo n mc] 26) = W0 at HB0 HBX HC ⊢
            obtain ⟨B, hB⟩ : ∃ B, B = w.heap.size := ⟨_, rfl⟩
            rw [← hB] at HBX ⊢
            clear hB
            go_loopw [3] (fun v3 wr => ∃ k : Nat, k ≤ n ∧ v3 = .int .i64 k ∧ (c.mths.take k).any Mth.great = false ∧ Below W0.heap.size W0 wr) (fun v3 _ => n - (intOf v3).toNat)
            case atStart => exact ⟨0, Nat.zero_le _, rfl, by simp, Below.refl _ _⟩
            case round =>
              obtain ⟨k, hk, rfl, hall, hbw⟩ := hrel
              have HA := Lib.hid hall
              have HBW := Lib.hid hbw
              have c7 := (HBX.out.below hbw).cell 7 rfl
              clear hall hbw
              by_cases hlt : k < n
              · have hkl : k < c.mths.length := by have := HN.out; omega
                obtain ⟨x, hx⟩ : ∃ x, c.mths[k]? = some x := ⟨_, List.getElem?_eq_getElem hkl⟩
                have hoW := Only.ofBelow (S := fun _ => False) HBW.out
                obtain ⟨b, o, v, rfl, hv, hsz, hcl⟩ := HC.out k x hx
                have HV := Lib.hid (MthR.st.keep hv hoW (fun _ _ => id))
                obtain ⟨_, _, _, rfl, ⟨po, pc, rfl⟩, ⟨co, cc, rfl⟩, ⟨ko, kc, rfl⟩⟩ := mth_shape hv
                have d0 : wr.cell? ⟨b, o + k * 7, none⟩ = some (.string (S x.name)) := hoW.cell (a := ⟨b, o + k * 7, none⟩) (hcl 0 _ rfl) id
                have d1 : wr.cell? ⟨b, o + k * 7 + 1, none⟩ = some (.slice po x.params.length pc) := hoW.cell (a := ⟨b, o + k * 7 + 1, none⟩) (hcl 1 _ rfl) id
                have d2 : wr.cell? ⟨b, o + k * 7 + 2, none⟩ = some (.string (S x.res)) := hoW.cell (a := ⟨b, o + k * 7 + 2, none⟩) (hcl 2 _ rfl) id
                have d3 : wr.cell? ⟨b, o + k * 7 + 3, none⟩ = some (.bool x.abs) := hoW.cell (a := ⟨b, o + k * 7 + 3, none⟩) (hcl 3 _ rfl) id
                have d4 : wr.cell? ⟨b, o + k * 7 + 4, none⟩ = some (.int .i64 x.loc) := hoW.cell (a := ⟨b, o + k * 7 + 4, none⟩) (hcl 4 _ rfl) id
                have d5 : wr.cell? ⟨b, o + k * 7 + 5, none⟩ = some (.slice co x.code.length cc) := hoW.cell (a := ⟨b, o + k * 7 + 5, none⟩) (hcl 5 _ rfl) id
                have d6 : wr.cell? ⟨b, o + k * 7 + 6, none⟩ = some (.slice ko x.cats.length kc) := hoW.cell (a := ⟨b, o + k * 7 + 6, none⟩) (hcl 6 _ rfl) id
                clear hcl hsz
                have HX := Lib.hid hx
                have hts := take_any_succ Mth.great c.mths k x hx
                rw [HA.out, Bool.false_or] at hts
                have HTS := Lib.hid hts
                clear hx hkl hoW hts
                have hk0 : (0 : Int) ≤ k := by omega
                have hkn : (k : Int) < (n : Int) := by omega
                by_cases h1 : 40 < x.params.length
                · have ih1 : 40 < (x.params.length : Int) := by omega
                  have hmx : x.great = true := by unfold Mth.great; simp [h1]
                  rw [hmx] at HTS
                  have hR : R = false := by rw [HMA.out, any_take HTS.out]; simp
                  subst hR
                  have HBE := Lib.hid (HB0.out.trans ((below_alloc HBW.out _).mono HB0.out.size) : Below w.heap.size w (wr.alloc (.cells #[.string (S x.name), .slice po x.params.length pc, .string (S x.res), .bool x.abs, .int .i64 x.loc, .slice co x.code.length cc, .slice ko x.cats.length kc] 33)))
                  clear hmx h1
                  go_wp2
                  go_ret
                  exact ⟨rfl, HBE.out⟩
                · have ih1 : ¬ (40 < (x.params.length : Int)) := by omega
                  by_cases h2 : 250 < x.code.length
                  · have ih2 : 250 < (x.code.length : Int) := by omega
                    have hmx : x.great = true := by unfold Mth.great; simp [h1, h2]
                    rw [hmx] at HTS
                    have hR : R = false := by rw [HMA.out, any_take HTS.out]; simp
                    subst hR
                    have HBE := Lib.hid (HB0.out.trans ((below_alloc HBW.out _).mono HB0.out.size) : Below w.heap.size w (wr.alloc (.cells #[.string (S x.name), .slice po x.params.length pc, .string (S x.res), .bool x.abs, .int .i64 x.loc, .slice co x.code.length cc, .slice ko x.cats.length kc] 33)))
                    clear hmx h1 h2
                    go_wp2
                    go_ret
                    exact ⟨rfl, HBE.out⟩
                  · have ih2 : ¬ (250 < (x.code.length : Int)) := by omega
                    by_cases h3 : 40 < x.cats.length
                    · have ih3 : 40 < (x.cats.length : Int) := by omega
                      have hmx : x.great = true := by unfold Mth.great; simp [h1, h2, h3]
                      rw [hmx] at HTS
                      have hR : R = false := by rw [HMA.out, any_take HTS.out]; simp
                      subst hR
                      have HBE := Lib.hid (HB0.out.trans ((below_alloc HBW.out _).mono HB0.out.size) : Below w.heap.size w (wr.alloc (.cells #[.string (S x.name), .slice po x.params.length pc, .string (S x.res), .bool x.abs, .int .i64 x.loc, .slice co x.code.length cc, .slice ko x.cats.length kc] 33)))
                      clear hmx h1 h2 h3
                      go_wp2
                      go_ret
                      exact ⟨rfl, HBE.out⟩
                    · have ih3 : ¬ (40 < (x.cats.length : Int)) := by omega
                      have hmx : x.great = false := by unfold Mth.great; simp [h1, h2, h3]
                      rw [hmx] at HTS
                      clear hmx h1 h2 h3
                      go_wp2
                      go_roundw
                      case rel => exact ⟨k + 1, by omega, by go_num, HTS.out, below_alloc HBW.out _⟩
                      case measure => simp [intOf]; omega
              · obtain rfl : k = n := by omega
                have hfa : c.mths.any Mth.great = false := by
                  have h := HA.out
                  rw [HN.out, List.take_of_length_le (Nat.le_refl _)] at h
                  exact h
                rw [hfa] at HMA
                obtain rfl : R = true := by rw [HMA.out]; simp
                have HBE := Lib.hid (HB0.out.trans (HBW.out.mono HB0.out.size))
                clear hfa
                go_wp2
                go_ret
                exact ⟨rfl, HBE.out⟩
end Go.Proofs.YtpincofjopmaaaaGreatDoor
namespace Go.Proofs.YtpincofjopmaaaaGreatDoor
set_option maxRecDepth 100000
open Go.ChangeShapes Go.WideShapes Go.ChangeAt Go.RowKit Go.Lib Go.WideMaps Go.WideElems Go.Deep
instance : Inhabited Ins := ⟨⟨[], 0, []⟩⟩
instance : Inhabited Fld := ⟨⟨[], [], false⟩⟩
instance : Inhabited Cat := ⟨⟨0, 0, 0, []⟩⟩
instance : Inhabited Mth := ⟨⟨[], [], [], false, 0, [], []⟩⟩
instance : Inhabited Cls := ⟨⟨[], [], [], false, false, false, [], []⟩⟩
theorem laidOut : laidOutB Tryz.prog = true := by kernel_rfl
/-- A slice of elements, opened. -/
theorem elems_of {H : Type} {enc : TypeId × Value → H} {w : World} {held : Bool} {fuel : Nat} {α : Type} [Inhabited α] {R : ElemRel α} {p : α → Prop} {t e : TypeId} {n : Nat} {cs : List Value} {x : DataW H × List MemPlace}
    (ht : Tryz.prog.underlying t = some (.slice e)) (hn : Tryz.prog.cellsOf e = n) (hn0 : 0 < n) (h : DataW.trod enc Tryz.prog w 0 (fun _ => true) held fuel t cs = some x)
    (each : ∀ (fuel : Nat) (cs' : List Value) (y : DataW H × List MemPlace), cs'.length = n → DataW.trod enc Tryz.prog w 0 (fun _ => true) held fuel e cs' = some y → ∃ z : α, p z ∧ ∃ v : Value, R Anyw w z v ∧ v.cells.toList = cs') :
    ∃ (v : Value) (l : List α), cs = [v] ∧ Src n R Anyw w v l ∧ (∀ z ∈ l, p z) ∧ l.length ≤ 9223372036854775807 := by
  rcases open_slice ht h with ⟨hcs, _⟩ | ⟨a, len, cap, m, k, D, Pl, hcs, _, hl, hm, hmm, _, hi⟩
  · exact ⟨_, [], hcs, .nil, (fun z hz => by simp at hz), by simp⟩
  · have hmx : cap ≤ 9223372036854775807 := by unfold maxLen at hm; omega
    have hlm : len ≤ m := by rw [hmm]; simp; exact hl
    have each' : ∀ i, i < len → ∃ z : α, p z ∧ ∃ v : Value, R Anyw w z v ∧ v.cells.size = n ∧ ∀ (j : Nat) u, v.cells[j]? = some u → w.cell? (a.add (i * n + j)) = some u := by
      intro i hilt
      obtain ⟨cs', hc, ht'⟩ := hi i (by omega)
      rw [hn] at hc
      obtain ⟨_, hcl, hat⟩ := World.cells?_some hc
      obtain ⟨z, hz, v, hv, hvc⟩ := each _ cs' _ hcl ht'
      have hsz : v.cells.size = n := by rw [← Array.length_toList, hvc, hcl]
      refine ⟨z, hz, v, hv, hsz, fun j u hj => ?_⟩
      have hjn := cells_lt hsz hj
      have q := hat j hjn
      rw [Go.Deep.add_add] at q
      rw [q, ← hvc, Array.getElem?_toList]
      exact hj
    obtain ⟨F, hF⟩ := choose_lt (α := α) each'
    rcases Nat.eq_zero_or_pos len with h0 | h0
    · subst h0
      exact ⟨_, [], hcs, .inl ⟨_, _, rfl, rfl⟩, (fun z hz => by simp at hz), by simp⟩
    · obtain ⟨_, v0, _, hs0, hc0⟩ := hF 0 h0
      have hc00 := hc0 0 (v0.cells[0]'(by omega)) (Array.getElem?_eq_getElem _)
      obtain ⟨b, o, ha⟩ := add_plain' hc00
      have e : a.add (0 * n + 0) = a := by unfold Addr.add; simp
      have ha' : a = ⟨b, o, none⟩ := by rw [← e]; exact ha
      subst ha'
      have hb : b < w.heap.size := World.block_lt_of_cell? w _ (by rw [e] at hc00; exact hc00)
      have hlen : ((List.range len).map F).length = len := by simp
      have hget : ∀ (j : Nat) f, ((List.range len).map F)[j]? = some f → j < len ∧ f = F j := by
        intro j f hj
        have hjl : j < len := by
          rcases Nat.lt_or_ge j len with h | h
          · exact h
          · simp [List.getElem?_eq_none (show (List.range len).length ≤ j by simpa using h)] at hj
        simp [hjl] at hj
        exact ⟨hjl, hj.symm⟩
      refine ⟨_, (List.range len).map F, hcs, .inr ⟨b, o, cap, by rw [hlen], ⟨trivial, hb, by rw [hlen]; exact hl, hmx⟩, fun k z hz => ?_⟩, fun z hz => ?_, by rw [hlen]; omega⟩
      · obtain ⟨hk, rfl⟩ := hget k z hz
        obtain ⟨_, v, hv, hs, hc⟩ := hF k hk
        refine ⟨v, hv, hs, fun j u hj => ?_⟩
        have q := hc j u hj
        rw [Addr.add_mid] at q
        rw [Nat.add_assoc]
        exact q
      · obtain ⟨i, hi', rfl⟩ := List.mem_map.1 hz
        exact (hF i (by simpa using hi')).1
theorem oc_str : Tryz.prog.cellsOf 9 = 1 := by kernel_rfl
theorem oc_bool : Tryz.prog.cellsOf 4 = 1 := by kernel_rfl
theorem oc_int : Tryz.prog.cellsOf 3 = 1 := by kernel_rfl
theorem oc_i64 : Tryz.prog.cellsOf 2 = 1 := by kernel_rfl
theorem oc_lstr : Tryz.prog.cellsOf 22 = 1 := by kernel_rfl
theorem oc_lins : Tryz.prog.cellsOf 30 = 1 := by kernel_rfl
theorem oc_lcat : Tryz.prog.cellsOf 31 = 1 := by kernel_rfl
theorem oc_lfld : Tryz.prog.cellsOf 23 = 1 := by kernel_rfl
theorem oc_lmth : Tryz.prog.cellsOf 24 = 1 := by kernel_rfl
theorem oc_ins : Tryz.prog.cellsOf 70 = 3 := by kernel_rfl
theorem oc_cat : Tryz.prog.cellsOf 141 = 4 := by kernel_rfl
theorem oc_fld : Tryz.prog.cellsOf 62 = 3 := by kernel_rfl
theorem oc_mth : Tryz.prog.cellsOf 33 = 7 := by kernel_rfl
theorem oc_cls : Tryz.prog.cellsOf 26 = 8 := by kernel_rfl
theorem open_str {H : Type} {enc : TypeId × Value → H} {w : World} {held : Bool} {fuel : Nat} {cs : List Value} {x : DataW H × List MemPlace} (h : DataW.trod enc Tryz.prog w 0 (fun _ => true) held fuel 9 cs = some x) :
    ∃ z : List UInt8, strOk z ∧ cs = [.string (S z)] := by
  obtain ⟨s, e, _, wd⟩ := DataW.trod_string Tryz.underlying9 h
  exact ⟨s.data.toList, str_len s wd, by rw [e, S_data]⟩
theorem open_lstr {H : Type} {enc : TypeId × Value → H} {w : World} {held : Bool} {fuel : Nat} {cs : List Value} {x : DataW H × List MemPlace} (h : DataW.trod enc Tryz.prog w 0 (fun _ => true) held fuel 22 cs = some x) :
    ∃ (v : Value) (l : List (List UInt8)), cs = [v] ∧ Src 1 StrR Anyw w v l ∧ (∀ z ∈ l, (fun z : (List UInt8) => strOk z) z) ∧ l.length ≤ 9223372036854775807 :=
  elems_of (p := fun z : (List UInt8) => strOk z) Tryz.underlying22 oc_str (by decide) h (fun _ cs' _ hl ht => by obtain ⟨z, k, e⟩ := open_str ht; exact ⟨z, k, .string (S z), rfl, by rw [e]; rfl⟩)
theorem open_ins {H : Type} {enc : TypeId × Value → H} {w : World} {held : Bool} {fuel : Nat} {cs : List Value} {x : DataW H × List MemPlace} (hl : cs.length = 3)
    (h : DataW.trod enc Tryz.prog w 0 (fun _ => true) held fuel 70 cs = some x) : ∃ z : Ins, (i64 z.n ∧ strOk z.op ∧ strOk z.s) ∧ ∃ v : Value, InsR Anyw w z v ∧ v.cells.toList = cs := by
  obtain ⟨ys, n, _, _, _, hyl, hall⟩ := DataW.trod_struct Tryz.underlying70 h
  match cs, hl with
  | [c0, c1, c2], _ =>
    have g0 : DataW.trod enc Tryz.prog w 0 (fun _ => true) held n 9 [c0] = ys[0]? := by
      have g := hall 0 _ rfl
      change DataW.trod enc Tryz.prog w 0 (fun _ => true) held n 9 (([c0, c1, c2].drop 0).take (Tryz.prog.cellsOf 9)) = ys[0]? at g
      rw [oc_str] at g
      exact g
    rw [List.getElem?_eq_getElem (by rw [hyl]; decide)] at g0
    have g1 : DataW.trod enc Tryz.prog w 0 (fun _ => true) held n 2 [c1] = ys[1]? := by
      have g := hall 1 _ rfl
      change DataW.trod enc Tryz.prog w 0 (fun _ => true) held n 2 (([c0, c1, c2].drop 1).take (Tryz.prog.cellsOf 2)) = ys[1]? at g
      rw [oc_i64] at g
      exact g
    rw [List.getElem?_eq_getElem (by rw [hyl]; decide)] at g1
    have g2 : DataW.trod enc Tryz.prog w 0 (fun _ => true) held n 9 [c2] = ys[2]? := by
      have g := hall 2 _ rfl
      change DataW.trod enc Tryz.prog w 0 (fun _ => true) held n 9 (([c0, c1, c2].drop 2).take (Tryz.prog.cellsOf 9)) = ys[2]? at g
      rw [oc_str] at g
      exact g
    rw [List.getElem?_eq_getElem (by rw [hyl]; decide)] at g2
    obtain ⟨z0, k0, e0⟩ := open_str g0
    obtain ⟨z1, e1, _, k1⟩ := DataW.trod_int Tryz.underlying2 g1
    obtain ⟨z2, k2, e2⟩ := open_str g2
    simp only [List.cons.injEq, and_true] at e0
    subst e0
    simp only [List.cons.injEq, and_true] at e1
    subst e1
    simp only [List.cons.injEq, and_true] at e2
    subst e2
    exact ⟨⟨z0, z1, z2⟩, ⟨bounds_i64 k1, k0, k2⟩, _, rfl, rfl⟩
theorem open_lins {H : Type} {enc : TypeId × Value → H} {w : World} {held : Bool} {fuel : Nat} {cs : List Value} {x : DataW H × List MemPlace} (h : DataW.trod enc Tryz.prog w 0 (fun _ => true) held fuel 30 cs = some x) :
    ∃ (v : Value) (l : List Ins), cs = [v] ∧ Src 3 InsR Anyw w v l ∧ (∀ z ∈ l, (fun z : Ins => i64 z.n ∧ strOk z.op ∧ strOk z.s) z) ∧ l.length ≤ 9223372036854775807 :=
  elems_of (p := fun z : Ins => i64 z.n ∧ strOk z.op ∧ strOk z.s) Tryz.underlying30 oc_ins (by decide) h (fun _ cs' _ hl ht => open_ins hl ht)
theorem open_cat {H : Type} {enc : TypeId × Value → H} {w : World} {held : Bool} {fuel : Nat} {cs : List Value} {x : DataW H × List MemPlace} (hl : cs.length = 4)
    (h : DataW.trod enc Tryz.prog w 0 (fun _ => true) held fuel 141 cs = some x) : ∃ z : Cat, (z.held ∧ strOk z.cls) ∧ ∃ v : Value, CatR Anyw w z v ∧ v.cells.toList = cs := by
  obtain ⟨ys, n, _, _, _, hyl, hall⟩ := DataW.trod_struct Tryz.underlying141 h
  match cs, hl with
  | [c0, c1, c2, c3], _ =>
    have g0 : DataW.trod enc Tryz.prog w 0 (fun _ => true) held n 3 [c0] = ys[0]? := by
      have g := hall 0 _ rfl
      change DataW.trod enc Tryz.prog w 0 (fun _ => true) held n 3 (([c0, c1, c2, c3].drop 0).take (Tryz.prog.cellsOf 3)) = ys[0]? at g
      rw [oc_int] at g
      exact g
    rw [List.getElem?_eq_getElem (by rw [hyl]; decide)] at g0
    have g1 : DataW.trod enc Tryz.prog w 0 (fun _ => true) held n 3 [c1] = ys[1]? := by
      have g := hall 1 _ rfl
      change DataW.trod enc Tryz.prog w 0 (fun _ => true) held n 3 (([c0, c1, c2, c3].drop 1).take (Tryz.prog.cellsOf 3)) = ys[1]? at g
      rw [oc_int] at g
      exact g
    rw [List.getElem?_eq_getElem (by rw [hyl]; decide)] at g1
    have g2 : DataW.trod enc Tryz.prog w 0 (fun _ => true) held n 3 [c2] = ys[2]? := by
      have g := hall 2 _ rfl
      change DataW.trod enc Tryz.prog w 0 (fun _ => true) held n 3 (([c0, c1, c2, c3].drop 2).take (Tryz.prog.cellsOf 3)) = ys[2]? at g
      rw [oc_int] at g
      exact g
    rw [List.getElem?_eq_getElem (by rw [hyl]; decide)] at g2
    have g3 : DataW.trod enc Tryz.prog w 0 (fun _ => true) held n 9 [c3] = ys[3]? := by
      have g := hall 3 _ rfl
      change DataW.trod enc Tryz.prog w 0 (fun _ => true) held n 9 (([c0, c1, c2, c3].drop 3).take (Tryz.prog.cellsOf 9)) = ys[3]? at g
      rw [oc_str] at g
      exact g
    rw [List.getElem?_eq_getElem (by rw [hyl]; decide)] at g3
    obtain ⟨z0, e0, _, k0⟩ := DataW.trod_int Tryz.underlying3 g0
    obtain ⟨z1, e1, _, k1⟩ := DataW.trod_int Tryz.underlying3 g1
    obtain ⟨z2, e2, _, k2⟩ := DataW.trod_int Tryz.underlying3 g2
    obtain ⟨z3, k3, e3⟩ := open_str g3
    simp only [List.cons.injEq, and_true] at e0
    subst e0
    simp only [List.cons.injEq, and_true] at e1
    subst e1
    simp only [List.cons.injEq, and_true] at e2
    subst e2
    simp only [List.cons.injEq, and_true] at e3
    subst e3
    exact ⟨⟨z0, z1, z2, z3⟩, ⟨⟨bounds_i64 k0, bounds_i64 k1, bounds_i64 k2⟩, k3⟩, _, rfl, rfl⟩
theorem open_lcat {H : Type} {enc : TypeId × Value → H} {w : World} {held : Bool} {fuel : Nat} {cs : List Value} {x : DataW H × List MemPlace} (h : DataW.trod enc Tryz.prog w 0 (fun _ => true) held fuel 31 cs = some x) :
    ∃ (v : Value) (l : List Cat), cs = [v] ∧ Src 4 CatR Anyw w v l ∧ (∀ z ∈ l, (fun z : Cat => z.held ∧ strOk z.cls) z) ∧ l.length ≤ 9223372036854775807 :=
  elems_of (p := fun z : Cat => z.held ∧ strOk z.cls) Tryz.underlying31 oc_cat (by decide) h (fun _ cs' _ hl ht => open_cat hl ht)
theorem open_fld {H : Type} {enc : TypeId × Value → H} {w : World} {held : Bool} {fuel : Nat} {cs : List Value} {x : DataW H × List MemPlace} (hl : cs.length = 3)
    (h : DataW.trod enc Tryz.prog w 0 (fun _ => true) held fuel 62 cs = some x) : ∃ z : Fld, (strOk z.name ∧ strOk z.kind) ∧ ∃ v : Value, FldR Anyw w z v ∧ v.cells.toList = cs := by
  obtain ⟨ys, n, _, _, _, hyl, hall⟩ := DataW.trod_struct Tryz.underlying62 h
  match cs, hl with
  | [c0, c1, c2], _ =>
    have g0 : DataW.trod enc Tryz.prog w 0 (fun _ => true) held n 9 [c0] = ys[0]? := by
      have g := hall 0 _ rfl
      change DataW.trod enc Tryz.prog w 0 (fun _ => true) held n 9 (([c0, c1, c2].drop 0).take (Tryz.prog.cellsOf 9)) = ys[0]? at g
      rw [oc_str] at g
      exact g
    rw [List.getElem?_eq_getElem (by rw [hyl]; decide)] at g0
    have g1 : DataW.trod enc Tryz.prog w 0 (fun _ => true) held n 9 [c1] = ys[1]? := by
      have g := hall 1 _ rfl
      change DataW.trod enc Tryz.prog w 0 (fun _ => true) held n 9 (([c0, c1, c2].drop 1).take (Tryz.prog.cellsOf 9)) = ys[1]? at g
      rw [oc_str] at g
      exact g
    rw [List.getElem?_eq_getElem (by rw [hyl]; decide)] at g1
    have g2 : DataW.trod enc Tryz.prog w 0 (fun _ => true) held n 4 [c2] = ys[2]? := by
      have g := hall 2 _ rfl
      change DataW.trod enc Tryz.prog w 0 (fun _ => true) held n 4 (([c0, c1, c2].drop 2).take (Tryz.prog.cellsOf 4)) = ys[2]? at g
      rw [oc_bool] at g
      exact g
    rw [List.getElem?_eq_getElem (by rw [hyl]; decide)] at g2
    obtain ⟨z0, k0, e0⟩ := open_str g0
    obtain ⟨z1, k1, e1⟩ := open_str g1
    obtain ⟨z2, e2, _⟩ := DataW.trod_bool Tryz.underlying4 g2
    simp only [List.cons.injEq, and_true] at e0
    subst e0
    simp only [List.cons.injEq, and_true] at e1
    subst e1
    simp only [List.cons.injEq, and_true] at e2
    subst e2
    exact ⟨⟨z0, z1, z2⟩, ⟨k0, k1⟩, _, rfl, rfl⟩
theorem open_lfld {H : Type} {enc : TypeId × Value → H} {w : World} {held : Bool} {fuel : Nat} {cs : List Value} {x : DataW H × List MemPlace} (h : DataW.trod enc Tryz.prog w 0 (fun _ => true) held fuel 23 cs = some x) :
    ∃ (v : Value) (l : List Fld), cs = [v] ∧ Src 3 FldR Anyw w v l ∧ (∀ z ∈ l, (fun z : Fld => strOk z.name ∧ strOk z.kind) z) ∧ l.length ≤ 9223372036854775807 :=
  elems_of (p := fun z : Fld => strOk z.name ∧ strOk z.kind) Tryz.underlying23 oc_fld (by decide) h (fun _ cs' _ hl ht => open_fld hl ht)
theorem open_mth {H : Type} {enc : TypeId × Value → H} {w : World} {held : Bool} {fuel : Nat} {cs : List Value} {x : DataW H × List MemPlace} (hl : cs.length = 7)
    (h : DataW.trod enc Tryz.prog w 0 (fun _ => true) held fuel 33 cs = some x) : ∃ z : Mth, (z.held ∧ z.Fit ∧ ∀ y ∈ z.code, strOk y.op) ∧ ∃ v : Value, MthR Anyw w z v ∧ v.cells.toList = cs := by
  obtain ⟨ys, n, _, _, _, hyl, hall⟩ := DataW.trod_struct Tryz.underlying33 h
  match cs, hl with
  | [c0, c1, c2, c3, c4, c5, c6], _ =>
    have g0 : DataW.trod enc Tryz.prog w 0 (fun _ => true) held n 9 [c0] = ys[0]? := by
      have g := hall 0 _ rfl
      change DataW.trod enc Tryz.prog w 0 (fun _ => true) held n 9 (([c0, c1, c2, c3, c4, c5, c6].drop 0).take (Tryz.prog.cellsOf 9)) = ys[0]? at g
      rw [oc_str] at g
      exact g
    rw [List.getElem?_eq_getElem (by rw [hyl]; decide)] at g0
    have g1 : DataW.trod enc Tryz.prog w 0 (fun _ => true) held n 22 [c1] = ys[1]? := by
      have g := hall 1 _ rfl
      change DataW.trod enc Tryz.prog w 0 (fun _ => true) held n 22 (([c0, c1, c2, c3, c4, c5, c6].drop 1).take (Tryz.prog.cellsOf 22)) = ys[1]? at g
      rw [oc_lstr] at g
      exact g
    rw [List.getElem?_eq_getElem (by rw [hyl]; decide)] at g1
    have g2 : DataW.trod enc Tryz.prog w 0 (fun _ => true) held n 9 [c2] = ys[2]? := by
      have g := hall 2 _ rfl
      change DataW.trod enc Tryz.prog w 0 (fun _ => true) held n 9 (([c0, c1, c2, c3, c4, c5, c6].drop 2).take (Tryz.prog.cellsOf 9)) = ys[2]? at g
      rw [oc_str] at g
      exact g
    rw [List.getElem?_eq_getElem (by rw [hyl]; decide)] at g2
    have g3 : DataW.trod enc Tryz.prog w 0 (fun _ => true) held n 4 [c3] = ys[3]? := by
      have g := hall 3 _ rfl
      change DataW.trod enc Tryz.prog w 0 (fun _ => true) held n 4 (([c0, c1, c2, c3, c4, c5, c6].drop 3).take (Tryz.prog.cellsOf 4)) = ys[3]? at g
      rw [oc_bool] at g
      exact g
    rw [List.getElem?_eq_getElem (by rw [hyl]; decide)] at g3
    have g4 : DataW.trod enc Tryz.prog w 0 (fun _ => true) held n 3 [c4] = ys[4]? := by
      have g := hall 4 _ rfl
      change DataW.trod enc Tryz.prog w 0 (fun _ => true) held n 3 (([c0, c1, c2, c3, c4, c5, c6].drop 4).take (Tryz.prog.cellsOf 3)) = ys[4]? at g
      rw [oc_int] at g
      exact g
    rw [List.getElem?_eq_getElem (by rw [hyl]; decide)] at g4
    have g5 : DataW.trod enc Tryz.prog w 0 (fun _ => true) held n 30 [c5] = ys[5]? := by
      have g := hall 5 _ rfl
      change DataW.trod enc Tryz.prog w 0 (fun _ => true) held n 30 (([c0, c1, c2, c3, c4, c5, c6].drop 5).take (Tryz.prog.cellsOf 30)) = ys[5]? at g
      rw [oc_lins] at g
      exact g
    rw [List.getElem?_eq_getElem (by rw [hyl]; decide)] at g5
    have g6 : DataW.trod enc Tryz.prog w 0 (fun _ => true) held n 31 [c6] = ys[6]? := by
      have g := hall 6 _ rfl
      change DataW.trod enc Tryz.prog w 0 (fun _ => true) held n 31 (([c0, c1, c2, c3, c4, c5, c6].drop 6).take (Tryz.prog.cellsOf 31)) = ys[6]? at g
      rw [oc_lcat] at g
      exact g
    rw [List.getElem?_eq_getElem (by rw [hyl]; decide)] at g6
    obtain ⟨z0, k0, e0⟩ := open_str g0
    obtain ⟨v1, z1, e1, q1, k1, n1⟩ := open_lstr g1
    obtain ⟨z2, k2, e2⟩ := open_str g2
    obtain ⟨z3, e3, _⟩ := DataW.trod_bool Tryz.underlying4 g3
    obtain ⟨z4, e4, _, k4⟩ := DataW.trod_int Tryz.underlying3 g4
    obtain ⟨v5, z5, e5, q5, k5, n5⟩ := open_lins g5
    obtain ⟨v6, z6, e6, q6, k6, n6⟩ := open_lcat g6
    simp only [List.cons.injEq, and_true] at e0
    subst e0
    simp only [List.cons.injEq, and_true] at e1
    subst e1
    simp only [List.cons.injEq, and_true] at e2
    subst e2
    simp only [List.cons.injEq, and_true] at e3
    subst e3
    simp only [List.cons.injEq, and_true] at e4
    subst e4
    simp only [List.cons.injEq, and_true] at e5
    subst e5
    simp only [List.cons.injEq, and_true] at e6
    subst e6
    exact ⟨⟨z0, z1, z2, z3, z4, z5, z6⟩, ⟨⟨bounds_i64 k4, fun y hy => (k5 y hy).1, fun y hy => (k6 y hy).1⟩, ⟨k0, k2, k1, fun y hy => (k5 y hy).2.2, fun y hy => (k6 y hy).2, n1, n5, n6⟩, fun y hy => (k5 y hy).2.1⟩, _, ⟨_, _, _, rfl, q1, q5, q6⟩, rfl⟩
theorem open_lmth {H : Type} {enc : TypeId × Value → H} {w : World} {held : Bool} {fuel : Nat} {cs : List Value} {x : DataW H × List MemPlace} (h : DataW.trod enc Tryz.prog w 0 (fun _ => true) held fuel 24 cs = some x) :
    ∃ (v : Value) (l : List Mth), cs = [v] ∧ Src 7 MthR Anyw w v l ∧ (∀ z ∈ l, (fun z : Mth => z.held ∧ z.Fit ∧ ∀ y ∈ z.code, strOk y.op) z) ∧ l.length ≤ 9223372036854775807 :=
  elems_of (p := fun z : Mth => z.held ∧ z.Fit ∧ ∀ y ∈ z.code, strOk y.op) Tryz.underlying24 oc_mth (by decide) h (fun _ cs' _ hl ht => open_mth hl ht)
/-- What a class holds that a machine may hold. -/
def Cls.real (c : Cls) : Prop := c.held ∧ c.Fit ∧ ∀ m ∈ c.mths, ∀ y ∈ m.code, strOk y.op
theorem open_cls {H : Type} {enc : TypeId × Value → H} {w : World} {held : Bool} {fuel : Nat} {cs : List Value} {x : DataW H × List MemPlace} (hl : cs.length = 8)
    (h : DataW.trod enc Tryz.prog w 0 (fun _ => true) held fuel 26 cs = some x) : ∃ z : Cls, z.real ∧ ∃ v : Value, ClsR Anyw w z v ∧ v.cells.toList = cs := by
  obtain ⟨ys, n, _, _, _, hyl, hall⟩ := DataW.trod_struct Tryz.underlying26 h
  match cs, hl with
  | [c0, c1, c2, c3, c4, c5, c6, c7], _ =>
    have g0 : DataW.trod enc Tryz.prog w 0 (fun _ => true) held n 9 [c0] = ys[0]? := by
      have g := hall 0 _ rfl
      change DataW.trod enc Tryz.prog w 0 (fun _ => true) held n 9 (([c0, c1, c2, c3, c4, c5, c6, c7].drop 0).take (Tryz.prog.cellsOf 9)) = ys[0]? at g
      rw [oc_str] at g
      exact g
    rw [List.getElem?_eq_getElem (by rw [hyl]; decide)] at g0
    have g1 : DataW.trod enc Tryz.prog w 0 (fun _ => true) held n 9 [c1] = ys[1]? := by
      have g := hall 1 _ rfl
      change DataW.trod enc Tryz.prog w 0 (fun _ => true) held n 9 (([c0, c1, c2, c3, c4, c5, c6, c7].drop 1).take (Tryz.prog.cellsOf 9)) = ys[1]? at g
      rw [oc_str] at g
      exact g
    rw [List.getElem?_eq_getElem (by rw [hyl]; decide)] at g1
    have g2 : DataW.trod enc Tryz.prog w 0 (fun _ => true) held n 22 [c2] = ys[2]? := by
      have g := hall 2 _ rfl
      change DataW.trod enc Tryz.prog w 0 (fun _ => true) held n 22 (([c0, c1, c2, c3, c4, c5, c6, c7].drop 2).take (Tryz.prog.cellsOf 22)) = ys[2]? at g
      rw [oc_lstr] at g
      exact g
    rw [List.getElem?_eq_getElem (by rw [hyl]; decide)] at g2
    have g3 : DataW.trod enc Tryz.prog w 0 (fun _ => true) held n 4 [c3] = ys[3]? := by
      have g := hall 3 _ rfl
      change DataW.trod enc Tryz.prog w 0 (fun _ => true) held n 4 (([c0, c1, c2, c3, c4, c5, c6, c7].drop 3).take (Tryz.prog.cellsOf 4)) = ys[3]? at g
      rw [oc_bool] at g
      exact g
    rw [List.getElem?_eq_getElem (by rw [hyl]; decide)] at g3
    have g4 : DataW.trod enc Tryz.prog w 0 (fun _ => true) held n 4 [c4] = ys[4]? := by
      have g := hall 4 _ rfl
      change DataW.trod enc Tryz.prog w 0 (fun _ => true) held n 4 (([c0, c1, c2, c3, c4, c5, c6, c7].drop 4).take (Tryz.prog.cellsOf 4)) = ys[4]? at g
      rw [oc_bool] at g
      exact g
    rw [List.getElem?_eq_getElem (by rw [hyl]; decide)] at g4
    have g5 : DataW.trod enc Tryz.prog w 0 (fun _ => true) held n 4 [c5] = ys[5]? := by
      have g := hall 5 _ rfl
      change DataW.trod enc Tryz.prog w 0 (fun _ => true) held n 4 (([c0, c1, c2, c3, c4, c5, c6, c7].drop 5).take (Tryz.prog.cellsOf 4)) = ys[5]? at g
      rw [oc_bool] at g
      exact g
    rw [List.getElem?_eq_getElem (by rw [hyl]; decide)] at g5
    have g6 : DataW.trod enc Tryz.prog w 0 (fun _ => true) held n 23 [c6] = ys[6]? := by
      have g := hall 6 _ rfl
      change DataW.trod enc Tryz.prog w 0 (fun _ => true) held n 23 (([c0, c1, c2, c3, c4, c5, c6, c7].drop 6).take (Tryz.prog.cellsOf 23)) = ys[6]? at g
      rw [oc_lfld] at g
      exact g
    rw [List.getElem?_eq_getElem (by rw [hyl]; decide)] at g6
    have g7 : DataW.trod enc Tryz.prog w 0 (fun _ => true) held n 24 [c7] = ys[7]? := by
      have g := hall 7 _ rfl
      change DataW.trod enc Tryz.prog w 0 (fun _ => true) held n 24 (([c0, c1, c2, c3, c4, c5, c6, c7].drop 7).take (Tryz.prog.cellsOf 24)) = ys[7]? at g
      rw [oc_lmth] at g
      exact g
    rw [List.getElem?_eq_getElem (by rw [hyl]; decide)] at g7
    obtain ⟨z0, k0, e0⟩ := open_str g0
    obtain ⟨z1, k1, e1⟩ := open_str g1
    obtain ⟨v2, z2, e2, q2, k2, n2⟩ := open_lstr g2
    obtain ⟨z3, e3, _⟩ := DataW.trod_bool Tryz.underlying4 g3
    obtain ⟨z4, e4, _⟩ := DataW.trod_bool Tryz.underlying4 g4
    obtain ⟨z5, e5, _⟩ := DataW.trod_bool Tryz.underlying4 g5
    obtain ⟨v6, z6, e6, q6, k6, n6⟩ := open_lfld g6
    obtain ⟨v7, z7, e7, q7, k7, n7⟩ := open_lmth g7
    simp only [List.cons.injEq, and_true] at e0
    subst e0
    simp only [List.cons.injEq, and_true] at e1
    subst e1
    simp only [List.cons.injEq, and_true] at e2
    subst e2
    simp only [List.cons.injEq, and_true] at e3
    subst e3
    simp only [List.cons.injEq, and_true] at e4
    subst e4
    simp only [List.cons.injEq, and_true] at e5
    subst e5
    simp only [List.cons.injEq, and_true] at e6
    subst e6
    simp only [List.cons.injEq, and_true] at e7
    subst e7
    exact ⟨⟨z0, z1, z2, z3, z4, z5, z6, z7⟩, ⟨fun y hy => (k7 y hy).1, ⟨k0, k1, k2, k6, fun y hy => (k7 y hy).2.1, n2, n6, n7⟩, fun y hy => (k7 y hy).2.2⟩, _, ⟨_, _, _, rfl, q2, q6, q7⟩, rfl⟩
theorem open_lcls {H : Type} {enc : TypeId × Value → H} {w : World} {held : Bool} {fuel : Nat} {cs : List Value} {x : DataW H × List MemPlace} (h : DataW.trod enc Tryz.prog w 0 (fun _ => true) held fuel 37 cs = some x) :
    ∃ (v : Value) (l : List Cls), cs = [v] ∧ Src 8 ClsR Anyw w v l ∧ (∀ z ∈ l, (fun z : Cls => z.real) z) ∧ l.length ≤ 9223372036854775807 :=
  elems_of (p := fun z : Cls => z.real) Tryz.underlying37 oc_cls (by decide) h (fun _ cs' _ hl ht => open_cls hl ht)
theorem class_of {H : Type} {enc : TypeId × Value → H} {w : World} {held : Bool} {v : Value} {d : DataW H} {p : List MemPlace} {base : Nat} (hv : Value.okWide Tryz.prog w .any base 26 v)
    (h : DataW.Trod enc Tryz.prog w 0 (fun _ => true) held 26 v d p) : ∃ c : Cls, c.real ∧ ClsR Anyw w c v := by
  obtain ⟨cs, rfl, hsz⟩ := okWide_struct Tryz.underlying26 hv
  obtain ⟨fuel, hf⟩ := h
  rw [oc_cls] at hsz
  have hc : (Value.agg cs).cells.toList = cs.toList := rfl
  rw [hc] at hf
  obtain ⟨c, hr, v, hv, hcs⟩ := open_cls (by simpa using hsz) hf
  refine ⟨c, hr, ?_⟩
  obtain ⟨lv, fv, mv, rfl, h1, h2, h3⟩ := hv
  have : cs = (Value.agg #[.string (S c.name), .string (S c.sup), lv, .bool c.itf, .bool c.abs, .bool c.fin, fv, mv]).cells := Array.toList_inj.1 hcs.symm
  rw [this]
  exact ⟨lv, fv, mv, rfl, h1, h2, h3⟩
theorem classes_of {H : Type} {enc : TypeId × Value → H} {w : World} {held : Bool} {v : Value} {d : DataW H} {p : List MemPlace} {base : Nat} (hv : Value.okWide Tryz.prog w .any base 37 v)
    (h : DataW.Trod enc Tryz.prog w 0 (fun _ => true) held 37 v d p) : ∃ l : List Cls, (∀ c ∈ l, c.real) ∧ Src 8 ClsR Anyw w v l ∧ l.length ≤ 9223372036854775807 := by
  obtain ⟨ao, len, cap, rfl⟩ := okWide_slice Tryz.underlying37 hv
  obtain ⟨fuel, hf⟩ := h
  obtain ⟨u, l, hu, hs, hp, hn⟩ := open_lcls hf
  have hc : (Value.slice ao len cap).cells.toList = [Value.slice ao len cap] := rfl
  rw [hc] at hu
  simp only [List.cons.injEq, and_true] at hu
  exact ⟨l, hp, hu ▸ hs, hn⟩
end Go.Proofs.YtpincofjopmaaaaGreatDoor
