/-
  What holds between two rounds of package code's Read.
  The contract of package code's Read: the instructions whose text this is, or the error that a line is none's.
  Conditions: the tables and the errors of strconv hold what they hold at the start; the text has at most 65536 bytes.
  Plain mathematics: an instruction's text has one line feed, its last byte; so a text's lines are its instructions'.
  Conditions: none.
-/
import Derived.Test.YtcoobdbfgiiejaaGreatDoorCRead4
namespace Go.Proofs.YtcoobdbfgiiejaaGreatDoor
open Go.RowKit Go.Shelf
theorem flatten_lines : ∀ (k : Nat) (l : List UInt8), l.length ≤ k → (linesL l).flatten = l
  | 0, l, h => by
    obtain rfl := List.length_eq_zero_iff.1 (Nat.le_zero.1 h)
    rfl
  | k + 1, l, h => by
    by_cases hl : l = []
    · subst hl; rfl
    · have := restLf_lt hl
      rw [linesL_cons hl, List.flatten_cons, flatten_lines k _ (by omega), line_rest]
/-- Three boxes (the results, l), and the row of l. -/
structure RI (w W : World) (v : Value) (m : List Ins) : Prop where
  b0 : Boxed W w.heap.size 22 (.slice none 0 0)
  b1 : Boxed W (w.heap.size + 1) 26 (.int .i64 0)
  b2 : Boxed W (w.heap.size + 2) 22 v
  row : W.ownsRow w.heap.size 50 3 v m.length (insCells m)
  bel : Below w.heap.size w W
namespace RI
variable {w W W' : World} {v : Value} {m : List Ins}
theorem owned (h : RI w W v m) {r : Nat} {o : Obj} (hr : W.heap[r]? = some o) (ho : o.isCells = false) : v.ownBlock = none ∨ v.ownBlock ≠ some r := by
  rcases h.row.2 with ⟨rfl, _⟩ | ⟨g, cap, cur, rfl, _, hgb, _⟩
  · exact .inl rfl
  · refine .inr fun e => ?_
    obtain rfl : g = r := by simpa [Value.ownBlock] using e
    rw [hgb] at hr
    cases hr
    cases ho
theorem box_ne {b r : Nat} {t : TypeId} {u : Value} (hb : Boxed W b t u) {o : Obj} (hr : W.heap[r]? = some o) (ho : o.isCells = false) : some b ≠ some r := by
  intro e
  cases e
  rw [show W.heap[b]? = _ from hb] at hr
  cases hr
  cases ho
theorem grown (h : RI w W v m) {row : Option Nat} (hg : W.grownBy W' row) (hr : ∀ r, row = some r → w.heap.size ≤ r ∧ ∃ o : Obj, W.heap[r]? = some o ∧ o.isCells = false) : RI w W' v m := by
  cases row with
  | none => exact ⟨h.b0.kept hg (by simp), h.b1.kept hg (by simp), h.b2.kept hg (by simp), h.row.kept hg (by cases v.ownBlock <;> simp), h.bel.grown hg h.bel.size (fun _ e => by cases e)⟩
  | some r =>
    obtain ⟨hle, _, ho, hc⟩ := hr r rfl
    exact ⟨h.b0.kept hg (box_ne h.b0 ho hc), h.b1.kept hg (box_ne h.b1 ho hc), h.b2.kept hg (box_ne h.b2 ho hc), h.row.kept hg (h.owned ho hc), h.bel.grown hg h.bel.size (fun k e => by cases e; exact hle)⟩
theorem below (h : RI w W v m) (hb : Below W.heap.size W W') : RI w W' v m :=
  ⟨(hb.block _ h.b0.lt).trans h.b0, (hb.block _ h.b1.lt).trans h.b1, (hb.block _ h.b2.lt).trans h.b2, (Only.ofBelow (S := fun _ => False) hb).row h.row (fun _ _ => id), h.bel.trans (hb.mono h.bel.size)⟩
theorem state (h : RI w W v m) {u : Value} (hb : Boxed W (w.heap.size + 3) 9 u) (u' : Value) : RI w (W.setCell ⟨w.heap.size + 3, 0, none⟩ u') v m :=
  ⟨h.b0.other (by omega) _, h.b1.other (by omega) _, h.b2.other (by omega) _, h.row.kept (grownBy_setCell' W _ u') (.inr (hb.not_row (by decide) h.row).symm), h.bel.setCell (p := ⟨w.heap.size + 3, 0, none⟩) (by simp) _⟩
theorem src (h : RI w W v m) : IR w W v m := by
  refine ⟨⟨h.row.1, ?_⟩, fun g hg => (h.row.lt g hg).1⟩
  rcases h.row.2 with h0 | ⟨g, cap, cur, e, _, h3⟩
  · exact .inl h0
  · exact .inr ⟨g, cap, cur, e, Nat.zero_le _, h3⟩
end RI
theorem keepsFrom_below {n : Nat} {W W' : World} (hb : Below W.heap.size W W') : KeepsFrom n W W' :=
  ⟨hb.size, fun k _ _ hk _ => (hb.block k (Array.getElem?_eq_some_iff.1 hk).1).trans hk⟩
/-- What has been read is what the lines that came say. -/
structure RJ (w : World) (pre : List (List UInt8)) (W : World) : Prop where
  ex : ∃ v m, RI w W v m ∧ m.map Ins.text = pre ∧ ∀ x ∈ m, x.ok ∧ x.e = 0
/-- A line was none's. -/
structure RX (w : World) (pre : List (List UInt8)) (W : World) : Prop where
  b0 : Boxed W w.heap.size 22 (.slice none 0 0)
  b1 : Boxed W (w.heap.size + 1) 26 (.int .i64 42)
  bel : Below w.heap.size w W
  bad : ∃ x ∈ pre, ∀ y : Ins, y.ok → y.e = 0 → y.text ≠ x
theorem rj_own (w : World) (B : Nat) (hB : w.heap.size ≤ B) : OwnFrom B (RJ w) := by
  rintro s X Y row ⟨v, m, h, h1, h2⟩ hg hr
  exact ⟨v, m, h.grown hg (fun r e => ⟨Nat.le_trans hB (hr r e).1, (hr r e).2⟩), h1, h2⟩
theorem rx_own (w : World) (B : Nat) (hB : w.heap.size ≤ B) : OwnFrom B (RX w) := by
  rintro s X Y row ⟨h0, h1, h2, h3⟩ hg hr
  have ne : ∀ {b : Nat} {t : TypeId} {u : Value}, Boxed X b t u → some b ≠ row := fun hb e => by
    obtain ⟨_, o, ho, hc⟩ := hr _ e.symm
    exact RI.box_ne hb ho hc rfl
  exact ⟨h0.kept hg (ne h0), h1.kept hg (ne h1), h2.grown hg h2.size (fun k e => Nat.le_trans hB (hr k e).1), h3⟩
theorem rj_start (w W : World) (h0 : Boxed W w.heap.size 22 (.slice none 0 0)) (h1 : Boxed W (w.heap.size + 1) 26 (.int .i64 0)) (h2 : Boxed W (w.heap.size + 2) 22 (.slice none 0 0)) (hb : Below w.heap.size w W) : RJ w [] W :=
  ⟨_, [], ⟨h0, h1, h2, World.ownsRow_nil _ _ _ _, hb⟩, rfl, fun x hx => by simp at hx⟩
end Go.Proofs.YtcoobdbfgiiejaaGreatDoor
namespace Go.Proofs.YtcoobdbfgiiejaaGreatDoor
open Go.RowKit Go.Shelf
attribute [local go_sem] Oper.semAt_some
def ReadG (s : List UInt8) (w : World) (e : Ending) (w' : World) : Prop :=
  Below w.heap.size w w' ∧ ((∃ vs m, e = .returned (.tuple #[vs, .int .i64 0]) ∧ IR w w' vs m ∧ m.map Ins.text = linesL s ∧ ∀ x ∈ m, x.ok ∧ x.e = 0) ∨
    (e = .returned (.tuple #[.slice none 0 0, .int .i64 42]) ∧ ∃ x ∈ linesL s, ∀ y : Ins, y.ok → y.e = 0 → y.text ≠ x))
theorem RI.appended {w W w1 : World} {v v' u : Value} {m : List Ins} {tmp : Obj} (h : RI w W v m) (y : Ins) (hbx : Boxed W (w.heap.size + 3) 9 u)
    (hown' : w1.ownsRow w.heap.size 50 3 v' (m.length + 1) (insCells m ++ [.string (S y.op), .int .i64 y.n, .string (S y.s)])) (hgrow : (W.alloc tmp).grownBy w1 v.ownBlock) :
    Boxed w1 (w.heap.size + 2) 22 v ∧ RI w (w1.setCell ⟨w.heap.size + 2, 0, none⟩ v') v' (m ++ [y]) ∧ Boxed (w1.setCell ⟨w.heap.size + 2, 0, none⟩ v') (w.heap.size + 3) 9 u ∧ KeepsOthers W (w1.setCell ⟨w.heap.size + 2, 0, none⟩ v') := by
  obtain ⟨h1, h2, h3, h4, h5⟩ := h.b2.appended (by decide) h.row h.bel.size (by omega) hown' hgrow
  have k0 := ((h.b0.alloc tmp).kept hgrow (h.b0.not_row (by decide) h.row)).other (B' := w.heap.size + 2) (by omega) v'
  have k1 := ((h.b1.alloc tmp).kept hgrow (h.b1.not_row (by decide) h.row)).other (B' := w.heap.size + 2) (by omega) v'
  have k3 := ((hbx.alloc tmp).kept hgrow (hbx.not_row (by decide) h.row)).other (B' := w.heap.size + 2) (by omega) v'
  exact ⟨h1, ⟨k0, k1, h2, by rw [List.length_append, insCells_snoc]; exact h3, h.bel.trans h5⟩, k3, h4⟩
theorem RI.failed {w W : World} {v : Value} {m : List Ins} (h : RI w W v m) {pre : List (List UInt8)} (hbad : ∃ x ∈ pre, ∀ y : Ins, y.ok → y.e = 0 → y.text ≠ x) :
    RX w pre ((W.setCell ⟨w.heap.size, 0, none⟩ (.slice none 0 0)).setCell ⟨w.heap.size + 1, 0, none⟩ (.int .i64 42)) ∧ KeepsOthers W ((W.setCell ⟨w.heap.size, 0, none⟩ (.slice none 0 0)).setCell ⟨w.heap.size + 1, 0, none⟩ (.int .i64 42)) :=
  ⟨⟨(h.b0.set _).other (by omega) _, (h.b1.other (by omega) _).set _, (h.bel.setCell (p := ⟨w.heap.size, 0, none⟩) (Nat.le_refl _) _).setCell (p := ⟨w.heap.size + 1, 0, none⟩) (by simp) _, hbad⟩, (KeepsOthers.setCell _ _ _).trans (KeepsOthers.setCell _ _ _)⟩
theorem lines_count : ∀ (k : Nat) (l : List UInt8), l.length ≤ k → (linesL l).length ≤ l.length
  | 0, l, h => by
    obtain rfl := List.length_eq_zero_iff.1 (Nat.le_zero.1 h)
    exact Nat.le_refl _
  | k + 1, l, h => by
    by_cases hl : l = []
    · subst hl; exact Nat.le_refl _
    · have := restLf_lt hl
      have := lines_count k (restLf l) (by omega)
      rw [linesL_cons hl, List.length_cons]
      omega
theorem lines_le {s x : List UInt8} (h : x ∈ linesL s) : x.length ≤ s.length := by
  have hf := flatten_lines _ s (Nat.le_refl _)
  obtain ⟨a, b, hab⟩ := List.append_of_mem h
  rw [hab] at hf
  rw [← hf]
  simp
  omega
set_option maxHeartbeats 4000000 in
set_option maxRecDepth 100000 in
theorem cread_any (s : List UInt8) (w : World) (hT : CT w) (hp : Pow10 w) (hE : EV w) (hlim : s.length ≤ 65536) : Calls Tryz.prog 21 #[.string (S s)] w (ReadG s w) := by
  have HT := Lib.hid hT
  have HP := Lib.hid hp
  have HE := Lib.hid hE
  have HL := Lib.hid hlim
  obtain ⟨j0, hji, hz0, hz1, hz2⟩ := info_parts info_ins
  clear hT hp hE hlim
  refine (callsIn_wide (n := 5)).1 ?_
  refine callsIn_of_wp_marks Tryz.func21 rfl trivial ?_ rfl
  simp only [Tryz.ntmps21, List.size_toArray, List.length_cons, List.length_nil, Nat.reduceAdd, Nat.reduceSub, Array.replicate_succ, Array.replicate_zero, List.push_toArray, List.append_toArray, List.nil_append, List.cons_append]
  gi_wp2
  refine ⟨trivial, (callsIn_wide.2 (lines_any s _)).mono ?_⟩
  rintro e w' ⟨rfl, rfl⟩
  gi_wp2
  have o0 := Boxed.new w 22 (.slice none 0 0)
  have o1 := Boxed.new (w.alloc (.cells #[.slice none 0 0] 22)) 26 (.int .i64 0)
  have o2 := Boxed.new ((w.alloc (.cells #[.slice none 0 0] 22)).alloc (.cells #[.int .i64 0] 26)) 22 (.slice none 0 0)
  have o3 := Boxed.new (((w.alloc (.cells #[.slice none 0 0] 22)).alloc (.cells #[.int .i64 0] 26)).alloc (.cells #[.slice none 0 0] 22)) 9 (.string (S s))
  have hbw : Below w.heap.size w ((((w.alloc (.cells #[.slice none 0 0] 22)).alloc (.cells #[.int .i64 0] 26)).alloc (.cells #[.slice none 0 0] 22)).alloc (.cells #[.string (S s)] 9)) :=
    ((((Below.refl _ w).alloc (Nat.le_refl _) _).alloc (by simp) _).alloc (by simp; omega) _).alloc (by simp; omega) _
  simp only [World.size_alloc] at o1 o2 o3
  have hrj := rj_start w _ (((o0.alloc _).alloc _).alloc (.cells #[.string (S s)] 9)) ((o1.alloc _).alloc _) (o2.alloc _) hbw
  have hsz : ((((w.alloc (.cells #[.slice none 0 0] 22)).alloc (.cells #[.int .i64 0] 26)).alloc (.cells #[.slice none 0 0] 22)).alloc (.cells #[.string (S s)] 9)).heap.size = w.heap.size + 4 := by simp
  generalize (((w.alloc (.cells #[.slice none 0 0] 22)).alloc (.cells #[.int .i64 0] 26)).alloc (.cells #[.slice none 0 0] 22)).alloc (.cells #[.string (S s)] 9) = W0 at o3 hrj hsz ⊢
  clear o0 o1 o2 hbw
  simp only [Nat.add_assoc, Nat.reduceAdd] at o3 ⊢
  refine range_box (F := Fence.wide) (n := 5) (w := W0) rfl (by decide) (gf := 73) (lb := #[.pointer (some ⟨w.heap.size + 3, 0, none⟩)]) rfl trivial (enters_of Tryz.func73 (by kernel_rfl) rfl)
    (lines1_any (5 - 1) (by decide) s (by have := HL.out; omega) (w.heap.size + 3)) (fun _ => rfl) o3 (RJ w) (RX w) (rj_own w _ (by omega)) (rx_own w _ (by omega)) ?_ hrj
    (fun x => { tmps := #[.string (S s), undef, .pointer (some ⟨w.heap.size, 0, none⟩), .pointer (some ⟨w.heap.size + 1, 0, none⟩), .pointer (some ⟨w.heap.size + 2, 0, none⟩), .string (S x), undef, undef, undef, .string (S s), .func (.func 73) #[] #[.pointer (some ⟨w.heap.size + 3, 0, none⟩)], .string (S x), undef, undef, undef, undef, undef, undef, undef, undef, undef, undef, undef, undef, undef, undef, undef, undef, undef, undef, undef, undef], defers := [] }) ?assign ?body ?done ?stop
  · rintro pre v v' W ⟨vs, m, hi, hm, hok⟩ hb
    exact ⟨vs, m, hi.state hb v', hm, hok⟩
  case assign =>
    intro l x W K hK
    gi_wp2
    exact hK
  case body =>
    rintro l pre x v W ⟨vs, m, hi, hm, hok⟩ hbx hG
    have hxm : x ∈ linesL s := hG.subset (by simp)
    have hxl : x.length ≤ 65536 := Nat.le_trans (lines_le hxm) HL.out
    have hml : m.length + 1 ≤ 65536 := by
      have h1 := hG.length_le
      have h2 := lines_count _ s (Nat.le_refl _)
      have h3 := HL.out
      rw [← hm] at h1
      simp at h1
      omega
    gi_wp2
    refine ⟨trivial, (CallsIn.inRound l (callsIn_wide.2 (guess_any x W (HT.out.keep hi.bel) (HE.out.keep hi.bel) (by omega)))).mono ?_⟩
    rintro e w2 ⟨y, rfl, hyo, hb2, hyg⟩
    have hi2 := hi.below hb2
    have hbx2 : Boxed w2 (w.heap.size + 3) 9 v := (hb2.block _ hbx.lt).trans hbx
    obtain ⟨yo, yn, ys⟩ := y
    gi_wp2
    have n1 := Three.new w2 (.string (S yo)) (.int .i64 yn) (.string (S ys))
    have n2 := Three.new (w2.alloc (.cells #[.string (S yo), .int .i64 yn, .string (S ys)] 50)) (.string (S yo)) (.int .i64 yn) (.string (S ys))
    have n3 := n1.alloc (.cells #[.string (S yo), .int .i64 yn, .string (S ys)] 50)
    rw [World.size_alloc] at n2
    have hb3 : Below w2.heap.size w2 ((w2.alloc (.cells #[.string (S yo), .int .i64 yn, .string (S ys)] 50)).alloc (.cells #[.string (S yo), .int .i64 yn, .string (S ys)] 50)) := ((Below.refl _ w2).alloc (Nat.le_refl _) _).alloc (by simp) _
    generalize (w2.alloc (.cells #[.string (S yo), .int .i64 yn, .string (S ys)] 50)).alloc (.cells #[.string (S yo), .int .i64 yn, .string (S ys)] 50) = w3 at n2 n3 hb3 ⊢
    have hi3 := hi2.below hb3
    have hsrc : InsSrc w3 (.slice (some ⟨w2.heap.size + 1, 0, none⟩) 1 1) [⟨yo, yn, ys⟩] := .inr ⟨_, _, _, rfl, fun k z hz => by
      match k, hz with
      | 0, hz =>
        simp at hz
        subst hz
        obtain ⟨⟨c0, c1, c2⟩, _, _⟩ := n2.cells
        exact ⟨c0, c1, c2⟩
      | k + 1, hz => simp at hz⟩
    refine ⟨trivial, (CallsIn.inRound l (callsIn_wide.2 (show_any [⟨yo, yn, ys⟩] _ w3 (HT.out.keep hi3.bel) (HP.out.keep hi3.bel) hsrc (by simp) (fun z hz => by rw [List.mem_singleton.1 hz]; exact hyo)))).mono ?_⟩
    rintro e w4 ⟨rfl, hb4⟩
    have hi4 := hi3.below hb4
    have hbx4 : Boxed w4 (w.heap.size + 3) 9 v := by
      have h3 : Boxed w3 (w.heap.size + 3) 9 v := (hb3.block _ hbx2.lt).trans hbx2
      exact (hb4.block _ h3.lt).trans h3
    have hW4 : Below W.heap.size W w4 := hb2.trans ((hb3.trans (hb4.mono hb3.size)).mono hb2.size)
    have n4 := n3.below hb4
    have hkf : ∀ n, KeepsFrom n W w4 := fun _ => keepsFrom_below hW4
    have hbad : ∀ z : Ins, z.ok → z.e = 0 → z.text = x → (⟨yo, yn, ys⟩ : Ins) = z := fun z h1 h2 h3 => hyg z h1 h2 h3.symm
    have HBAD := Lib.hid hbad
    have HYO := Lib.hid hyo
    have HOK := Lib.hid hok
    have HM := Lib.hid hm
    have HI4 := Lib.hid hi4
    have HBX4 := Lib.hid hbx4
    have HKF := Lib.hid hkf
    have hc0 := hi4.b0.cell
    have hf0 := hi4.b0.frozen
    have hc1 := hi4.b1.cell
    have hf1 := hi4.b1.frozen
    have hc2 := hi4.b2.cell
    obtain ⟨⟨d0, d1, d2⟩, _, _⟩ := n4.cells
    have hsh : showL [⟨yo, yn, ys⟩] = Ins.text ⟨yo, yn, ys⟩ := by simp [showL]
    have hae : allE [⟨yo, yn, ys⟩] = Ins.e ⟨yo, yn, ys⟩ := by
      unfold allE
      split
      · rename_i h; rw [h]; rfl
      · rfl
    rw [hsh, hae]
    clear hi hi2 hi3 hi4 hbx hbx2 hbx4 hb2 hb3 hb4 hW4 n1 n2 n3 hsrc hkf hbad hyg hyo hok hm hxm hxl hsh hae
    by_cases hz : Ins.e ⟨yo, yn, ys⟩ = 0
    · rw [hz, if_pos rfl]
      have HZ := Lib.hid hz
      clear hz
      have e1 := S_toList (Ins.text ⟨yo, yn, ys⟩)
      have e2 := S_toList x
      by_cases heq : Ins.text ⟨yo, yn, ys⟩ = x
      · have hb : (Ins.text ⟨yo, yn, ys⟩ == x) = true := beq_iff_eq.2 heq
        have HEQ := Lib.hid heq
        clear heq
        obtain ⟨ao, cp, rfl⟩ := HI4.out.src.shape
        generalize Ins.text ⟨yo, yn, ys⟩ = TX at hb e1 ⊢
        gi_wp2_with (gi_at_builtin; refine wpListIn_append_own _ rfl _ _ 22 rfl w.heap.size 50 j0 (.agg #[.string ⟨#[]⟩, .int .i64 0, .string ⟨#[]⟩]) 3 40 Tryz.underlying22 hji hz0 hz1 hz2 rfl (by decide) _ _ _ rfl (HI4.out.row.alloc _) ⟨w4.heap.size, 0, none⟩ 1 1 [.string (S yo), .int .i64 yn, .string (S ys)] rfl rfl (by intro j u hj; have q := range3 (Three.new w4 (.string (S yo)) (.int .i64 yn) (.string (S ys))) j u hj; rw [Addr.add_mid]; exact q) (by intro u hu; simp at hu; rcases hu with rfl | rfl | rfl <;> rfl) ?c3 ?c4 ?c5 ?_)
        case c3 => unfold maxLen; omega
        case c4 => omega
        case c5 => have := HI4.out.bel.size; simp; omega
        intro v' w1 hown' hgrow _
        obtain ⟨g', cap', rfl⟩ := ownsRow_succ hown'
        obtain ⟨hv1, hr2, hx2, hk2⟩ := HI4.out.appended ⟨yo, yn, ys⟩ HBX4.out hown' hgrow
        have hc5 := hv1.cell
        have hf5 := hv1.frozen
        have HR2 := Lib.hid hr2
        have HX2 := Lib.hid hx2
        have HK2 := Lib.hid hk2
        clear hown' hgrow hr2 hx2 hk2 hv1
        gi_wp2
        exact ⟨(HKF.out _).trans (HK2.out.from _), HX2.out, _, _, HR2.out, by rw [List.map_append, HM.out, List.map_cons, HEQ.out, List.map_nil], fun z hz => by
          rcases List.mem_append.1 hz with hz | hz
          · exact HOK.out z hz
          · rw [List.mem_singleton.1 hz]; exact ⟨HYO.out, HZ.out⟩⟩
      · have hb : (Ins.text ⟨yo, yn, ys⟩ == x) = false := beq_eq_false_iff_ne.2 heq
        have hF := HI4.out.failed (pre := pre ++ [x]) ⟨x, by simp, fun z h1 h2 h3 => heq (by rw [HBAD.out z h1 h2 h3]; exact h3)⟩
        have HF := Lib.hid hF
        clear heq hF
        generalize Ins.text ⟨yo, yn, ys⟩ = TX at hb e1 ⊢
        gi_wp2
        exact ⟨(HKF.out _).trans (HF.out.2.from _), HF.out.1⟩
    · have hF := HI4.out.failed (pre := pre ++ [x]) ⟨x, by simp, fun z h1 h2 h3 => hz (by rw [HBAD.out z h1 h2 h3]; exact h2)⟩
      have HF := Lib.hid hF
      rw [if_neg hz]
      generalize Ins.e ⟨yo, yn, ys⟩ = E at hz ⊢
      have hzb : (((E : Nat) : Int) != 0) = true := by rw [bne_iff_ne]; omega
      clear hF hz
      gi_wp2
      exact ⟨(HKF.out _).trans (HF.out.2.from _), HF.out.1⟩
  case done =>
    rintro D xs W hD hS ⟨vs, m, hi, hm, hok⟩ hK
    obtain ⟨ao, cp, rfl⟩ := hi.src.shape
    have hc2 := hi.b2.cell
    have hc1 := hi.b1.cell
    have hc0 := hi.b0.cell
    have hf1 := hi.b1.frozen
    have hf0 := hi.b0.frozen
    have hKO : KeepsOthers W ((W.setCell ⟨w.heap.size, 0, none⟩ (.slice ao m.length cp)).setCell ⟨w.heap.size + 1, 0, none⟩ (.int .i64 0)) := (KeepsOthers.setCell _ _ _).trans (KeepsOthers.setCell _ _ _)
    have hK2 := hKO.same D _ hK rfl
    have k0 : Boxed ((W.setCell ⟨w.heap.size, 0, none⟩ (.slice ao m.length cp)).setCell ⟨w.heap.size + 1, 0, none⟩ (.int .i64 0)) w.heap.size 22 (.slice ao m.length cp) := (hi.b0.set _).other (by omega) _
    have k1 : Boxed ((W.setCell ⟨w.heap.size, 0, none⟩ (.slice ao m.length cp)).setCell ⟨w.heap.size + 1, 0, none⟩ (.int .i64 0)) (w.heap.size + 1) 26 (.int .i64 0) := (hi.b1.other (by omega) _).set _
    have kr := (hi.src.row.kept (grownBy_setCell' W w.heap.size (.slice ao m.length cp)) (.inr (hi.b0.not_row (by decide) hi.row).symm))
    have kb1 : Boxed (W.setCell ⟨w.heap.size, 0, none⟩ (.slice ao m.length cp)) (w.heap.size + 1) 26 (.int .i64 0) := hi.b1.other (by omega) _
    have kr2 := kr.kept (grownBy_setCell' _ (w.heap.size + 1) (.int .i64 0)) (.inr (kb1.not_row (by decide) kr).symm)
    have kbl : Below w.heap.size w ((W.setCell ⟨w.heap.size, 0, none⟩ (.slice ao m.length cp)).setCell ⟨w.heap.size + 1, 0, none⟩ (.int .i64 0)) := (hi.bel.setCell (p := ⟨w.heap.size, 0, none⟩) (Nat.le_refl _) _).setCell (p := ⟨w.heap.size + 1, 0, none⟩) (by simp) _
    have hown := hi.src.own
    have HKR := Lib.hid kr2
    have HKBL := Lib.hid kbl
    have HK0 := Lib.hid k0
    have HK1 := Lib.hid k1
    have HKK := Lib.hid hK2
    have HOWN := Lib.hid hown
    have HM := Lib.hid (hm.trans hS)
    have HOK := Lib.hid hok
    clear kr kb1 kr2 kbl k0 k1 hKO hK2 hown hi hm hok hK hS
    gi_wp2
    generalize (W.setCell ⟨w.heap.size, 0, none⟩ (.slice ao m.length cp)).setCell ⟨w.heap.size + 1, 0, none⟩ (.int .i64 0) = W5 at HKR HKBL HK0 HK1 HKK ⊢
    refine ⟨by simp, .inl ⟨_, _, rfl, run_takeDeferred HKK.out, ?_⟩⟩
    have q0 := (HK0.out.kept (grownBy_putObj' W5 D (.deferred none)) (RI.box_ne HK0.out HKK.out rfl)).cell
    have q1 := (HK1.out.kept (grownBy_putObj' W5 D (.deferred none)) (RI.box_ne HK1.out HKK.out rfl)).cell
    refine ⟨.tuple #[.slice ao m.length cp, .int .i64 0], ?_, HKBL.out.grown (grownBy_putObj' W5 D (.deferred none)) HKBL.out.size (fun k e => by cases e; omega), .inl ⟨_, m, rfl, ⟨ownsRow_putObj HKR.out _ HKK.out rfl, HOWN.out⟩, HM.out, HOK.out⟩⟩
    simp [results, Tryz.results21, go_sem, q0, q1]
  case stop =>
    rintro D pre W hD hG hx hK
    gi_wp2
    refine ⟨by simp, .inl ⟨_, _, rfl, run_takeDeferred hK, ?_⟩⟩
    have q0 := (hx.b0.kept (grownBy_putObj' W D (.deferred none)) (RI.box_ne hx.b0 hK rfl)).cell
    have q1 := (hx.b1.kept (grownBy_putObj' W D (.deferred none)) (RI.box_ne hx.b1 hK rfl)).cell
    obtain ⟨x, hxm, hxn⟩ := hx.bad
    refine ⟨.tuple #[.slice none 0 0, .int .i64 42], ?_, hx.bel.grown (grownBy_putObj' W D (.deferred none)) hx.bel.size (fun k e => by cases e; omega), .inr ⟨rfl, x, hG.subset hxm, hxn⟩⟩
    simp [results, Tryz.results21, go_sem, q0, q1]
end Go.Proofs.YtcoobdbfgiiejaaGreatDoor
namespace Go.Proofs.YtcoobdbfgiiejaaGreatDoor
open Go.RowKit
theorem ok_not_lf {i : Nat} {c : UInt8} (h : okAt i c = true) : c ≠ 10 := by
  rintro rfl
  unfold okAt letterB digitB at h
  simp at h
theorem name_nolf {l : List UInt8} (h : nameB l = true) : ∀ c ∈ l, c ≠ 10 := by
  unfold nameB at h
  rw [Bool.and_eq_true] at h
  have h1 := h.1
  unfold okTo at h1
  rw [List.all_eq_true] at h1
  intro c hc
  obtain ⟨i, hi, rfl⟩ := List.mem_iff_getElem.1 hc
  have h2 := h1 i (List.mem_range.2 hi)
  rw [List.getD_eq_getElem?_getD, List.getElem?_eq_getElem hi] at h2
  exact ok_not_lf h2
theorem class_nolf {l : List UInt8} (h : classB l = true) : ∀ c ∈ l, c ≠ 10 := by
  unfold classB at h
  rw [Bool.and_eq_true] at h
  exact name_nolf h.1
theorem member_nolf {l : List UInt8} (h : memberB l = true) : ∀ c ∈ l, c ≠ 10 := by
  unfold memberB at h
  rw [Bool.and_eq_true] at h
  exact name_nolf h.1
theorem base_nolf : ∀ (k : Nat) (l : List UInt8), l.length ≤ k → nameB (baseL l) = true → ∀ c ∈ l, c ≠ 10
  | 0, l, hk, _ => by
    obtain rfl := List.length_eq_zero_iff.1 (Nat.le_zero.1 hk)
    intro c hc
    simp at hc
  | k + 1, l, hk, h => by
    cases he : endsB l with
    | false =>
      unfold baseL at h
      rw [deepN_not he] at h
      rw [List.take_of_length_le (by omega)] at h
      exact name_nolf h
    | true =>
      have h2 := endsB_two he
      have hb : baseL l = baseL (l.take (l.length - 2)) := by
        unfold baseL
        rw [deepN_ends he, List.take_take, List.length_take]
        congr 1
        omega
      rw [hb] at h
      have ih := base_nolf k (l.take (l.length - 2)) (by rw [List.length_take]; omega) h
      unfold endsB at he
      rw [Bool.and_eq_true] at he
      have hd := of_decide_eq_true he.2
      have hl := List.take_append_drop (l.length - 2) l
      rw [hd] at hl
      intro c hc
      rw [← hl] at hc
      rcases List.mem_append.1 hc with h3 | h3
      · exact ih c h3
      · simp at h3
        rcases h3 with rfl | rfl <;> decide
theorem right_nolf {l : List UInt8} (h : rightB l = true) : ∀ c ∈ l, c ≠ 10 := base_nolf _ l (Nat.le_refl _) (right_base h)
theorem parts_nolf {l : List UInt8} (h : partsB l = true) : ∀ c ∈ l, c ≠ 10 := by
  unfold partsB at h
  rw [Bool.and_eq_true, Bool.and_eq_true] at h
  have hlt := of_decide_eq_true h.1
  have hdot : l[dotAt l]? = some 46 := by
    have h1 := List.findIdx_getElem (xs := l) (p := fun c => c == 46) (w := hlt)
    rw [List.getElem?_eq_getElem hlt]
    exact congrArg some (beq_iff_eq.1 h1)
  have hl := List.take_append_drop (dotAt l) l
  have hc := List.drop_eq_getElem_cons hlt
  have h46 : l[dotAt l] = 46 := Option.some.inj ((List.getElem?_eq_getElem hlt).symm.trans hdot)
  intro c hcm
  rw [← hl, hc, h46] at hcm
  rcases List.mem_append.1 hcm with h3 | h3
  · exact class_nolf h.2.1 c h3
  · rcases List.mem_cons.1 h3 with rfl | h3
    · decide
    · exact member_nolf h.2.2 c h3
theorem allows_nolf {h : Nat} {s : List UInt8} (ha : allowsB h s = true) : ∀ c ∈ s, c ≠ 10 := by
  unfold allowsB at ha
  split at ha
  · rw [Bool.and_eq_true] at ha
    have := ha.2
    rintro c hc rfl
    simp at this
    exact this hc
  · split at ha
    · exact class_nolf ha
    · split at ha
      · rw [Bool.or_eq_true] at ha
        rcases ha with ha | ha
        · exact class_nolf ha
        · have hd := of_decide_eq_true ha
          cases hr : rightB s with
          | true => exact right_nolf hr
          | false => rw [depN_not hr] at hd; omega
      · split at ha
        · rw [Bool.and_eq_true] at ha
          exact right_nolf ha.1
        · split at ha
          · exact parts_nolf ha
          · rw [beq_iff_eq] at ha
            subst ha
            intro c hc
            simp at hc
theorem dec_nolf : ∀ (n u : Nat), u ≤ n → ∀ c ∈ Lib.decDigits u, c ≠ 10 := by
  have key : ∀ d : Nat, d < 10 → UInt8.ofNat (48 + d) ≠ 10 := by decide
  intro n
  induction n with
  | zero =>
    intro u hu c hc
    rw [dec_small (by omega)] at hc
    rw [List.mem_singleton.1 hc]
    exact key u (by omega)
  | succ n ih =>
    intro u hu c hc
    by_cases h : u < 10
    · rw [dec_small h] at hc
      rw [List.mem_singleton.1 hc]
      exact key u h
    · rw [dec_big h] at hc
      rcases List.mem_append.1 hc with h3 | h3
      · exact ih (u / 10) (by omega) c h3
      · rw [List.mem_singleton.1 h3]
        exact key _ (by omega)
theorem itoa_nolf (n : Int) : ∀ c ∈ Lib.itoa n, c ≠ 10 := by
  unfold Lib.itoa
  split
  · intro c hc
    rcases List.mem_cons.1 hc with rfl | h3
    · decide
    · exact dec_nolf _ _ (Nat.le_refl _) c h3
  · exact dec_nolf _ _ (Nat.le_refl _)
theorem name_nolfs : ∀ k : Fin 42, ∀ c ∈ nameAt k.val, c ≠ 10 := by decide +kernel
theorem text_nolf {y : Ins} (h : y.e = 0) : ∀ c ∈ nameAt (idx y.op) ++ argText (hasAt (idx y.op)) y.n y.s, c ≠ 10 := by
  obtain ⟨hi, _, _, ha⟩ := ins_fine h
  intro c hc
  rcases List.mem_append.1 hc with h3 | h3
  · exact name_nolfs ⟨idx y.op, hi⟩ c h3
  · unfold argText at h3
    split at h3
    · rcases List.mem_cons.1 h3 with rfl | h3
      · decide
      · exact itoa_nolf _ c h3
    · split at h3
      · rcases List.mem_cons.1 h3 with rfl | h3
        · decide
        · exact allows_nolf ha c h3
      · simp at h3
theorem lf_here (a r : List UInt8) (h : ∀ c ∈ a, c ≠ 10) : lfAt (a ++ 10 :: r) = a.length := by
  unfold lfAt
  induction a with
  | nil => simp [List.findIdx_cons]
  | cons x a ih =>
    have hx : (x == 10) = false := beq_eq_false_iff_ne.2 (h x (by simp))
    rw [List.cons_append, List.findIdx_cons, hx, cond_false, ih (fun c hc => h c (by simp [hc])), List.length_cons]
theorem lines_show : ∀ (m : List Ins), (∀ x ∈ m, x.e = 0) → linesL (showL m) = m.map Ins.text
  | [], _ => rfl
  | y :: m, h => by
    have ih := lines_show m (fun x hx => h x (by simp [hx]))
    have hn := text_nolf (h y (by simp))
    have ht : showL (y :: m) = (nameAt (idx y.op) ++ argText (hasAt (idx y.op)) y.n y.s) ++ 10 :: showL m := by
      unfold showL Ins.text
      simp
    have htx : y.text = (nameAt (idx y.op) ++ argText (hasAt (idx y.op)) y.n y.s) ++ [10] := by
      unfold Ins.text
      simp
    rw [List.map_cons, ← ih, htx, ht]
    generalize nameAt (idx y.op) ++ argText (hasAt (idx y.op)) y.n y.s = a at hn
    rw [linesL_cons (by simp)]
    unfold lineL restLf
    rw [lf_here a _ hn]
    congr 1
    · rw [List.take_append, List.take_of_length_le (by omega)]
      simp
    · rw [List.drop_append, List.drop_of_length_le (by omega)]
      simp
/-- A text that is some instructions' is read back as they are. -/
theorem read_back {s : List UInt8} {m y : List Ins} (hm : m.map Ins.text = linesL s) (hme : ∀ x ∈ m, x.ok ∧ x.e = 0) (hy : ∀ x ∈ y, x.ok ∧ x.e = 0) (hs : showL y = s) : showL m = showL y := by
  have h1 := lines_show y (fun x hx => (hy x hx).2)
  rw [hs, ← hm] at h1
  have h2 := lines_show m (fun x hx => (hme x hx).2)
  have h3 : showL m = (m.map Ins.text).flatten := by unfold showL; rw [List.flatMap_def]
  have h4 : showL y = (y.map Ins.text).flatten := by unfold showL; rw [List.flatMap_def]
  rw [h3, h4, h1]
end Go.Proofs.YtcoobdbfgiiejaaGreatDoor
