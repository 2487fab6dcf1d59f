/-
  The contracts of package class's Sign and of the document's Sign of layer 5.
  Conditions: as each text of it says.
-/
import Derived.Test.YtpincofjopmaaaaGreatDoorM33
import Derived.Test.YtpincofjopmaaaaGreatDoorM18
import Derived.Test.YtpincofjopmaaaaGreatDoorM34
import Derived.Deep.RegionHeld
import Derived.Deep.DrawnRows
import Derived.Test.YtpincofjopmaaaaGreatDoorM17
set_option maxHeartbeats 8000000
set_option maxRecDepth 100000
namespace Go.Proofs.YtpincofjopmaaaaGreatDoor
open Go.RowKit
def signB (m : Mth) : List UInt8 := [40] ++ (Lib.join m.params [44] ++ ([41] ++ m.res))
def Mth.brief (m : Mth) : Prop := (Lib.join m.params [44]).length ≤ 70368744177664 ∧ m.res.length ≤ 70368744177664 ∧ m.params.length ≤ 70368744177664
theorem map_S (l : List (List UInt8)) : (l.map S).map (·.data.toList) = l := by
  rw [List.map_map]
  conv => rhs; rw [← List.map_id l]
  exact List.map_congr_left (fun x _ => rfl)
theorem join_any {A : Nat → Prop} {w : World} {po : Option Addr} {pc : Nat} (l : List (List UInt8)) (hs : Src 1 StrR A w (.slice po l.length pc) l) (hl : (Lib.join l [44]).length ≤ 70368744177664) (hn : l.length ≤ 70368744177664) :
    Calls Tryz.prog 47 #[.slice po l.length pc, .string ⟨#[44]⟩] w fun e w' => e = .returned (.string (S (Lib.join l [44]))) ∧ Below w.heap.size w w' := by
  rcases hs with ⟨ao, cp0, he, rfl⟩ | ⟨b, o, cap, he, ⟨_, hb, hc, _⟩, hcl⟩
  · exact (strings_Join_none po pc ⟨#[44]⟩ w).mono fun e w' ⟨h1, h2⟩ => ⟨h1, h2 ▸ Below.refl _ _⟩
  · simp at he
    obtain ⟨rfl, rfl⟩ := he
    have h := strings_Join b o pc (l.map S) ⟨#[44]⟩ w (fun j x hx => by
      rw [List.getElem?_map, Option.map_eq_some_iff] at hx
      obtain ⟨y, hy, rfl⟩ := hx
      obtain ⟨v, hv, _, hcv⟩ := hcl j y hy
      obtain rfl := hv
      have q := hcv 0 _ rfl
      rw [Nat.mul_one] at q
      exact q) hb (by rw [List.length_map]; omega) (by rw [List.length_map]; exact hc) (by rw [map_S]; show (Lib.join l [44]).length ≤ _; omega)
    rw [map_S, List.length_map] at h
    exact h
theorem csign_any {A : Nat → Prop} (m : Mth) (v : Value) (w : World) (hv : MthR A w m v) (hb : m.brief) :
    Calls Tryz.prog 16 #[v] w (SaidS (signB m) w) := by
  obtain ⟨pv, cv, kv, rfl, hp, hcd, hkt⟩ := hv
  obtain ⟨po, pc, rfl⟩ := hp.shape
  obtain ⟨co, cc, rfl⟩ := hcd.shape
  obtain ⟨ko, kc, rfl⟩ := hkt.shape
  have hb0 : Below w.heap.size w (w.alloc (.cells #[.string (S m.name), .slice po m.params.length pc, .string (S m.res), .bool m.abs, .int .i64 m.loc, .slice co m.code.length cc, .slice ko m.cats.length kc] 33)) := (Below.refl _ w).alloc (Nat.le_refl _) _
  have HB0 := Lib.hid hb0
  have HBX := Lib.hid (Box.new w #[.string (S m.name), .slice po m.params.length pc, .string (S m.res), .bool m.abs, .int .i64 m.loc, .slice co m.code.length cc, .slice ko m.cats.length kc] 33)
  have HJ : Hid (∀ W, Below (w.alloc (.cells #[.string (S m.name), .slice po m.params.length pc, .string (S m.res), .bool m.abs, .int .i64 m.loc, .slice co m.code.length cc, .slice ko m.cats.length kc] 33)).heap.size (w.alloc (.cells #[.string (S m.name), .slice po m.params.length pc, .string (S m.res), .bool m.abs, .int .i64 m.loc, .slice co m.code.length cc, .slice ko m.cats.length kc] 33)) W → Calls Tryz.prog 47 #[.slice po m.params.length pc, .string ⟨#[44]⟩] W fun e w' => e = .returned (.string (S (Lib.join m.params [44]))) ∧ Below W.heap.size W w') := Lib.hid (fun W hW => join_any m.params (StrR.st.below (StrR.st.below hp hb0) hW) hb.1 hb.2.2)
  have e1 : S (signB m) = S [40] ++ S (Lib.join m.params [44]) ++ S [41] ++ S m.res := by unfold signB; rw [S_append, S_append, S_append]; congr 1; simp
  have hj : (S (Lib.join m.params [44])).size ≤ 70368744177664 := by rw [S_size]; exact hb.1
  have hr : (S m.res).size ≤ 70368744177664 := by rw [S_size]; exact hb.2.1
  clear hp hcd hkt hb0 hb
  obtain ⟨R, hR⟩ : ∃ R, R = S (signB m) := ⟨_, rfl⟩
  unfold SaidS
  rw [← hR]
  rw [← hR] at e1
  generalize S (Lib.join m.params [44]) = uJ at HJ hj e1
  have HE := Lib.hid e1
  clear e1 hR
  obtain ⟨name, params, res, ab, loc, code, cats⟩ := m
  dsimp only at *
  generalize S res = uR at HB0 HBX HJ HE hr ⊢
  generalize params.length = n1 at *
  generalize code.length = n2 at *
  generalize cats.length = n3 at *
  go_enter Tryz.func16, Tryz.ntmps16
  go_upto_region 1 with fail
  generalize w.alloc (.cells #[.string (S name), .slice po n1 pc, .string uR, .bool ab, .int .i64 loc, .slice co n2 cc, .slice ko n3 kc] 33) = W0 at HB0 HBX HJ ⊢
  obtain ⟨B, hB⟩ : ∃ B, B = w.heap.size := ⟨_, rfl⟩
  rw [← hB] at HBX ⊢
  clear hB
  have HS : Hid (∀ W, Below W0.heap.size W0 W → W.cell? ⟨B, 1, none⟩ = some (.slice po n1 pc) ∧ W.cell? ⟨B, 2, none⟩ = some (.string uR)) := Lib.hid (fun W hW => ⟨(HBX.out.below hW).cell 1 rfl, (HBX.out.below hW).cell 2 rfl⟩)
  obtain ⟨g0, g1⟩ := HS.out _ (Below.refl _ W0)
  have k1 : ¬ (9223372036854775807 < 1 + uJ.size) := by omega
  have k2 : ¬ (9223372036854775807 < 1 + uJ.size + 1) := by omega
  have k3 : ¬ (9223372036854775807 < 1 + uJ.size + 1 + uR.size) := by omega
  first
  | (go_region_held (fun W => W.cell? ⟨B, 1, none⟩ = some (.slice po n1 pc) ∧ W.cell? ⟨B, 2, none⟩ = some (.string uR)) ((refine HS.out _ ?_; (repeat (first | (with_reducible exact Below.refl _ _) | (with_reducible (apply below_step; rotate_left; assumption)) | (with_reducible refine below_drew ?_)))))
      (first | ((with_reducible refine (HJ.out _ ?_).mono ?_); (focus ((repeat (first | (with_reducible exact Below.refl _ _) | (with_reducible (apply below_step; rotate_left; assumption)) | (with_reducible refine below_drew ?_))); done)); rintro e w1 ⟨rfl, b9⟩)))
  | fail
  have hbe : Below w.heap.size w w1 := HB0.out.trans (Below.mono (by (repeat (first | (with_reducible exact b9) | (with_reducible (apply below_step; rotate_left; assumption)) | (with_reducible exact Below.refl _ _) | (with_reducible refine below_drew ?_)))) HB0.out.size)
  go_wp2
  go_ret
  exact ⟨by rw [HE.out]; rfl, hbe⟩
end Go.Proofs.YtpincofjopmaaaaGreatDoor
namespace Go.Proofs.YtpincofjopmaaaaGreatDoor
theorem sig_len (l : List (List UInt8)) (n : Nat) (h : ∀ x ∈ l, x.length ≤ n) : (Lib.joinTail [44] l).length ≤ l.length * (n + 1) := by
  induction l with
  | nil => simp [Lib.joinTail]
  | cons x l ih =>
    have h1 := h x List.mem_cons_self
    have h2 := ih (fun y hy => h y (List.mem_cons_of_mem _ hy))
    have e : Lib.joinTail [44] (x :: l) = 44 :: (x ++ Lib.joinTail [44] l) := by simp [Lib.joinTail]
    rw [e, List.length_cons, List.length_append, List.length_cons, Nat.add_mul]
    omega
theorem Mth.Good.brief {m : Mth} (h : m.Good) : m.brief := by
  have h1 := h.nums.1
  have h2 := h.res_len
  have h3 : ∀ x ∈ m.params, x.length ≤ 38 := fun x hx => right_len (h.params x hx)
  have hj : (Lib.join m.params [44]).length ≤ 2000 := by
    cases hp : m.params with
    | nil => rw [Lib.join_nil]; simp
    | cons x r =>
      rw [hp] at h1 h3
      have a := h3 x List.mem_cons_self
      have b := sig_len r 38 (fun y hy => h3 y (List.mem_cons_of_mem _ hy))
      rw [List.length_cons] at h1
      rw [Lib.join_cons, List.length_append]
      omega
  exact ⟨by omega, by omega, by omega⟩
theorem opname_le : ∀ k, k < 42 → (nameAt k).length ≤ 6 := by decide
theorem Mth.Good.small {m : Mth} (h : m.Good) : m.Small := by
  have h1 := memB_len h.name
  have h2 := h.res_len
  have h3 := h.nums
  have h0 : m.abs = true → m.code.length = 0 ∧ m.cats.length = 0 := fun ha => by
    have := h.body
    unfold Mth.body at this
    rw [ha] at this
    simp only [if_true, Bool.and_eq_true, decide_eq_true_eq] at this
    exact this.2
  refine ⟨by omega, by omega, by omega, by omega, by omega, fun x hx => ?_, fun x hx => ?_, fun x hx => ?_⟩
  · have := right_len (h.params x hx)
    omega
  · cases ha : m.abs with
    | true => rw [List.length_eq_zero_iff.1 (h0 ha).1] at hx; cases hx
    | false =>
      obtain ⟨_, g2, _, _⟩ := h.real ha
      obtain ⟨k1, _, k3⟩ := fine_ok (g2 x hx) (h.held.2.1 x hx)
      have hi := (ins_fine k1).1
      have hop := (ins_fine k1).2.1
      have := opname_le _ hi
      rw [hop] at this
      exact ⟨by omega, by omega⟩
  · cases ha : m.abs with
    | true => rw [List.length_eq_zero_iff.1 (h0 ha).2] at hx; cases hx
    | false =>
      obtain ⟨_, _, g3, _⟩ := h.real ha
      have := classB_len (cat_nums (g3 x hx) h3.2.2.1).2.2.2
      omega
theorem Cls.Good.small {c : Cls} (h : c.Good) : c.Small := by
  have h1 := classB_len h.name
  have h2 := h.nums
  have h3 := classB_len h.above.1
  refine ⟨by omega, by omega, by omega, by omega, by omega, fun x hx => ?_, fun x hx => ?_, fun x hx => (h.mths x hx).small⟩
  · have := classB_len (h.above.2 x hx)
    omega
  · have := h.flds x hx
    unfold Fld.ok at this
    rw [Bool.and_eq_true] at this
    have h4 := memB_len this.1
    have h5 := right_len this.2
    omega
theorem Cls.Good.apart {c : Cls} (h : c.Good) : c.sup ≠ c.name ∧ c.name ∉ c.like := by
  have h1 := h.parts.2
  unfold Cls.fine Cls.names at h1
  simp only [Bool.and_eq_true, Bool.not_eq_true', List.any_eq_false, beq_iff_eq] at h1
  have h2 := h1.1.2.2.1
  exact ⟨fun e => h2 c.sup List.mem_cons_self e, fun e => h2 c.name (List.mem_cons_of_mem _ e) rfl⟩
end Go.Proofs.YtpincofjopmaaaaGreatDoor
