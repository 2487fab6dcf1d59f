/-
  What the bound on an argument's bulk says of a method's params.
  Conditions: none; laws of readings.
-/
import Derived.Test.YtggcdinoflchjaaGreatDoorK90
import Derived.Test.YtggcdinoflchjaaGreatDoorRows
namespace Go.Proofs.YtggcdinoflchjaaGreatDoor
open Go.ChangeShapes Go.WideShapes Go.ChangeAt Go.RowKit Go.Lib Go.WideMaps Go.WideElems Go.Deep
namespace bulk
theorem part_le {H : Type} {d : DataW H} {l : List (DataW H)} (h : d ∈ l) : Rows.uptoBulk d ≤ Rows.uptoBulkAll l := by
  induction l with
  | nil => cases h
  | cons x r ih =>
    simp only [Rows.uptoBulkAll]
    cases List.mem_cons.1 h with
    | inl e => subst e; omega
    | inr e => have := ih e; omega
theorem append {H : Type} (l r : List (DataW H)) : Rows.uptoBulkAll (l ++ r) = Rows.uptoBulkAll l + Rows.uptoBulkAll r := by
  induction l with
  | nil => simp [Rows.uptoBulkAll]
  | cons x l ih => simp only [List.cons_append, Rows.uptoBulkAll, ih]; omega
def textsN (l : List (List UInt8)) : Nat := (l.map fun x => x.length + 1).sum
theorem sum_le {α H : Type} (f : α → Nat) : ∀ (l : List α) (ds : List (DataW H)), l.length = ds.length → (∀ (k : Nat) x d, l[k]? = some x → ds[k]? = some d → f x ≤ Rows.uptoBulk d) → (l.map f).sum ≤ Rows.uptoBulkAll ds
  | [], [], _, _ => by simp
  | [], _ :: _, h, _ => by simp at h
  | _ :: _, [], h, _ => by simp at h
  | x :: l, d :: ds, h, hf => by
    have h0 := hf 0 x d rfl rfl
    have ih := sum_le f l ds (by simpa using h) (fun k y e hy he => hf (k + 1) y e (by simpa using hy) (by simpa using he))
    simp only [List.map_cons, List.sum_cons, Rows.uptoBulkAll]
    omega
theorem slice_at {H : Type} {enc : TypeId × Value → H} {w : World} {held : Bool} {fuel : Nat} {α : Type} {R : Zao α} {A : Nat → Prop} {t e : TypeId} {n : Nat} {sv : Value} {l : List α} {x : DataW H × List MemPlace} (ht : Tryz.prog.underlying t = some (.slice e))
    (hn : Tryz.prog.cellsOf e = n) (hs : Src n R A w sv l) (h : DataW.trod enc Tryz.prog w 0 (fun _ => true) held fuel t [sv] = some x) :
    l = [] ∨ ∃ (ds spare : List (DataW H)), x.1 = .slice ds spare ∧ l.length = ds.length ∧ ∀ (k : Nat) z d, l[k]? = some z → ds[k]? = some d → ∃ (f : Nat) (v : Value) (pl : List MemPlace), R A w z v ∧ DataW.trod enc Tryz.prog w 0 (fun _ => true) held f e v.cells.toList = some (d, pl) := by
  rcases hs with ⟨ao, cap, rfl, rfl⟩ | ⟨b, o, cap, rfl, _, hc⟩
  · exact Or.inl rfl
  rcases open_slice ht h with ⟨hcs, _⟩ | ⟨a, len, cap', m, k0, D, Pl, hcs, _, hl, hm, hmm, hx, hi⟩
  · simp at hcs
  · right
    simp at hcs
    obtain ⟨rfl, hlen, rfl⟩ := hcs
    subst hlen
    have hlm : l.length ≤ m := by rw [hmm]; simp; exact hl
    refine ⟨_, _, by rw [hx], by simp, fun k z d hz hd => ?_⟩
    have hk : k < l.length := by
      rcases Nat.lt_or_ge k l.length with h' | h'
      · exact h'
      · rw [List.getElem?_eq_none h'] at hz; cases hz
    obtain ⟨cs', hcs', ht'⟩ := hi k (by omega)
    obtain ⟨v, hv, hvs, hvc⟩ := hc k z hz
    rw [hn] at hcs'
    obtain ⟨_, hcl, hat⟩ := World.cells?_some hcs'
    have hd' : D k = d := by
      have : ((List.range l.length).map D)[k]? = some (D k) := by simp [hk]
      rw [this] at hd
      exact Option.some.inj hd
    refine ⟨k0, v, Pl k, hv, ?_⟩
    have hce : v.cells.toList = cs' := by
      apply List.ext_getElem
      · rw [Array.length_toList, hvs, hcl]
      · intro j h1 h2
        have hj : j < n := by rw [← hcl]; exact h2
        have e1 := hat j hj
        have e2 := hvc j (v.cells[j]'(by rw [hvs]; exact hj)) (Array.getElem?_eq_getElem _)
        rw [Go.Deep.add_add, Addr.add_mid, ← Nat.add_assoc] at e1
        rw [e2] at e1
        rw [Array.getElem_toList]
        exact Option.some.inj (e1.trans (List.getElem?_eq_getElem h2))
    rw [hce, ht', hd']
theorem str_eq {H : Type} {enc : TypeId × Value → H} {w : World} {held : Bool} {fuel : Nat} {z : List UInt8} {x : DataW H × List MemPlace} (h : DataW.trod enc Tryz.prog w 0 (fun _ => true) held fuel 9 [.string (S z)] = some x) : Rows.uptoBulk x.1 = z.length + 1 := by
  obtain ⟨s, hc, hx, _⟩ := DataW.trod_string Tryz.underlying9 h
  simp only [List.cons.injEq, Value.string.injEq, and_true] at hc
  subst hc
  rw [hx]
  simp [Rows.uptoBulk, S]
theorem texts_le {H : Type} {enc : TypeId × Value → H} {w : World} {held : Bool} {fuel : Nat} {A : Nat → Prop} {sv : Value} {l : List (List UInt8)} {x : DataW H × List MemPlace} (hs : Src 1 StrR A w sv l)
    (h : DataW.trod enc Tryz.prog w 0 (fun _ => true) held fuel 22 [sv] = some x) : textsN l ≤ Rows.uptoBulk x.1 := by
  rcases slice_at Tryz.underlying22 ZfY hs h with rfl | ⟨ds, spare, hx, hl, he⟩
  · simp [textsN]
  · rw [hx]
    simp only [Rows.uptoBulk]
    have := sum_le (fun z : List UInt8 => z.length + 1) l ds hl (fun k z d hz hd => by
      obtain ⟨f, v, pl, hv, ht⟩ := he k z d hz hd
      obtain rfl := hv
      exact Nat.le_of_eq (str_eq ht).symm)
    unfold textsN
    omega
def sigN (m : Mth) : Nat := textsN m.params + m.res.length
theorem mth_le {H : Type} {enc : TypeId × Value → H} {w : World} {held : Bool} {fuel : Nat} {A : Nat → Prop} {v : Value} {m : Mth} {x : DataW H × List MemPlace} (hm : MthR A w m v)
    (h : DataW.trod enc Tryz.prog w 0 (fun _ => true) held fuel 44 v.cells.toList = some x) : sigN m ≤ Rows.uptoBulk x.1 := by
  obtain ⟨pv, cv, kv, rfl, hp, _, _⟩ := hm
  obtain ⟨ys, n, _, hx, _, hyl, hall⟩ := DataW.trod_struct Tryz.underlying44 h
  have g1 : DataW.trod enc Tryz.prog w 0 (fun _ => true) held n 22 [pv] = ys[1]? := by
    have g := hall 1 _ rfl
    change DataW.trod enc Tryz.prog w 0 (fun _ => true) held n 22 (([Value.string (S m.name), pv, .string (S m.res), .bool m.abs, .int .i64 m.loc, cv, kv].drop 1).take (Tryz.prog.cellsOf 22)) = ys[1]? at g
    rw [Zp5] at g
    exact g
  have g2 : DataW.trod enc Tryz.prog w 0 (fun _ => true) held n 9 [.string (S m.res)] = ys[2]? := by
    have g := hall 2 _ rfl
    change DataW.trod enc Tryz.prog w 0 (fun _ => true) held n 9 (([Value.string (S m.name), pv, .string (S m.res), .bool m.abs, .int .i64 m.loc, cv, kv].drop 2).take (Tryz.prog.cellsOf 9)) = ys[2]? at g
    rw [ZfY] at g
    exact g
  have hy : ys.length = 7 := hyl
  obtain ⟨y0, y1, y2, y3, y4, y5, y6, rfl⟩ : ∃ y0 y1 y2 y3 y4 y5 y6, ys = [y0, y1, y2, y3, y4, y5, y6] := by
    match ys, hy with
    | [y0, y1, y2, y3, y4, y5, y6], _ => exact ⟨_, _, _, _, _, _, _, rfl⟩
  have b1 := texts_le hp g1
  have b2 := str_eq g2
  rw [hx]
  simp only [List.map_cons, List.map_nil, Rows.uptoBulk, Rows.uptoBulkAll]
  unfold sigN
  omega
theorem text_le : ∀ (l : List (List UInt8)) (x : List UInt8), x ∈ l → x.length ≤ textsN l
  | [], x, h => by cases h
  | y :: r, x, h => by
    have e : textsN (y :: r) = y.length + 1 + textsN r := by simp [textsN]
    cases List.mem_cons.1 h with
    | inl q => subst q; omega
    | inr q => have := text_le r x q; omega
theorem params_le {H : Type} {enc : TypeId × Value → H} {w : World} {held : Bool} {A : Nat → Prop} {v : Value} {m : Mth} {d : DataW H} {p : List MemPlace} (hm : MthR A w m v)
    (h : DataW.Trod enc Tryz.prog w 0 (fun _ => true) held 44 v d p) : ∀ x ∈ m.params, x.length ≤ Rows.uptoBulk d := by
  obtain ⟨fuel, h⟩ := h
  have h1 := mth_le hm h
  intro x hx
  have h2 := text_le m.params x hx
  unfold sigN at h1
  simp only at h1
  omega
end bulk
end Go.Proofs.YtggcdinoflchjaaGreatDoor
