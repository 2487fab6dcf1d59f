/-
  The contracts of slices.Concat at two, four and five slices of bytes; package class's putField and putCatch.
  Conditions: the slices lie in memory that was there before; all together they have at most 2^47 bytes.
  The contracts of the document's many and method of layer 5.
  Conditions: the class's parts lie in memory that was there before; texts and lists that a machine may hold.
  The contracts of slices.IndexFunc and slices.ContainsFunc over pointers to entries, at whatever function they are handed.
  Conditions: the slice stays readable while the function is called.
-/
import Derived.Test.YtpincofjopmaaaaGreatDoorM17
import Derived.Deep.RegionHeld
import Derived.Deep.DrawnRows
import Derived.Deep.Cut
import Derived.Test.YtpincofjopmaaaaGreatDoorM12
import Derived.Test.YtpincofjopmaaaaGreatDoorM05
namespace Go.Proofs.YtpincofjopmaaaaGreatDoor
open Go.RowKit
theorem below_step {w V W : World} (h : Below w.heap.size w V) (b : Below V.heap.size V W) : Below w.heap.size w W := h.trans (b.mono h.size)
theorem below_alloc {w V : World} (h : Below w.heap.size w V) (o : Obj) : Below w.heap.size w (V.alloc o) := h.alloc h.size o
theorem below_drew {w V : World} (h : Below w.heap.size w V) : Below w.heap.size w V.drew := ⟨h.os, h.tape, h.output, h.size, h.block⟩
theorem src_step {V W : World} {v : Value} {l : List UInt8} (h : Src 1 ByteR Anyw V v l) (b : Below V.heap.size V W) : Src 1 ByteR Anyw W v l := ByteR.st.below h b
theorem src_alloc {V : World} {v : Value} {l : List UInt8} (h : Src 1 ByteR Anyw V v l) (o : Obj) : Src 1 ByteR Anyw (V.alloc o) v l := ByteR.st.below h ((Below.refl _ _).alloc (Nat.le_refl _) o)
theorem cell_step {V W : World} {a : Addr} {u : Value} (h : V.cell? a = some u) (b : Below V.heap.size V W) : W.cell? a = some u := (Only.ofBelow (S := fun _ => False) b).cell h id
theorem cell_alloc {V : World} {a : Addr} {u : Value} (h : V.cell? a = some u) (o : Obj) : (V.alloc o).cell? a = some u := ((Only.refl (fun _ => False) V).alloc o).cell h id
theorem src_drew {V : World} {v : Value} {l : List UInt8} (h : Src 1 ByteR Anyw V v l) : Src 1 ByteR Anyw V.drew v l := ByteR.st.below h ((Below.refl _ V).drew)
theorem cell_drew {V : World} {a : Addr} {u : Value} (h : V.cell? a = some u) : V.drew.cell? a = some u := h
theorem cell_new {V : World} {cs : Array Value} {t : TypeId} {X j : Nat} {u : Value} (hX : X = V.heap.size) (hj : cs[j]? = some u) : (V.alloc (.cells cs t)).cell? ⟨X, j, none⟩ = some u := by rw [hX]; exact (Box.new V cs t).cell j hj
/-- Slices of bytes in one row. -/
theorem src_slices {W : World} {X : Nat} (ls : List (List UInt8)) (vs : List Value) (hlen : vs.length = ls.length) (hv : ∀ (k : Nat) v l, vs[k]? = some v → ls[k]? = some l → Src 1 ByteR Anyw W v l) (hc : ∀ (k : Nat) v, vs[k]? = some v → W.cell? ⟨X, k, none⟩ = some v) (hX : X < W.heap.size) (hb : ls.length ≤ 9223372036854775807) :
    Src 1 (SlR 1 ByteR) Anyw W (.slice (some ⟨X, 0, none⟩) ls.length ls.length) ls := by
  refine .inr ⟨X, 0, ls.length, rfl, ⟨trivial, hX, Nat.le_refl _, hb⟩, fun k l hl => ?_⟩
  have hk : k < vs.length := by
    rcases Nat.lt_or_ge k ls.length with h | h
    · omega
    · rw [List.getElem?_eq_none h] at hl; cases hl
  have hvk : vs[k]? = some vs[k] := List.getElem?_eq_getElem hk
  have hs := hv k _ l hvk hl
  obtain ⟨ao, cp, he⟩ := hs.shape
  refine ⟨vs[k], hs, by rw [he]; rfl, fun j u hj => ?_⟩
  have hj0 := cells_lt (n := 1) (by rw [he]; rfl) hj
  obtain rfl : j = 0 := by omega
  obtain rfl : vs[k] = u := by rw [he] at hj ⊢; simpa [Value.cells] using hj
  rw [Nat.mul_one, Nat.zero_add, Nat.add_zero]
  exact hc k _ hvk
theorem bytes_of_join {ls : List (List UInt8)} {w : World} {e : Ending} {w' : World} (h : Joined 5 (ls.flatten.map byteV) w e w') : Bytes' w ls.flatten e w' := by
  obtain ⟨v, he, h1, h2, h3⟩ := h
  refine ⟨v, he, ⟨?_, h2, h3⟩⟩
  rw [List.length_map] at h1
  exact h1
/-- What is said of a call that makes bytes: a slice that reads so. -/
def Mk (l : List UInt8) (w : World) (e : Ending) (w' : World) : Prop := ∃ ao m c, e = .returned (.slice ao m c) ∧ Src 1 ByteR Anyw w' (.slice ao m c) l ∧ Below w.heap.size w w'
theorem mk_of_bytes {l : List UInt8} {w : World} {e : Ending} {w' : World} (h : Bytes' w l e w') : Mk l w e w' := by
  obtain ⟨v, he, s⟩ := h
  obtain ⟨ao, m, c, rfl⟩ := row_shape s.row
  exact ⟨ao, m, c, he, src_of_row s.row, s.bel⟩
/-- The same, with the row. -/
def MkB (l : List UInt8) (w : World) (e : Ending) (w' : World) : Prop := ∃ ao m c, e = .returned (.slice ao m c) ∧ BS w w' (.slice ao m c) l
theorem mkb_of_bytes {l : List UInt8} {w : World} {e : Ending} {w' : World} (h : Bytes' w l e w') : MkB l w e w' := by
  obtain ⟨v, he, s⟩ := h
  obtain ⟨ao, m, c, rfl⟩ := row_shape s.row
  exact ⟨ao, m, c, he, s⟩
theorem cat2_any {V : World} {l0 l1 : List UInt8} {v0 v1 : Value} (s0 : Src 1 ByteR Anyw V v0 l0) (s1 : Src 1 ByteR Anyw V v1 l1) (hlim : l0.length + l1.length ≤ 140737488355328) :
    Calls Tryz.prog 140 #[.slice (some ⟨V.heap.size, 0, none⟩) 2 2] (V.alloc (.cells #[v0, v1] 71)) (MkB (l0 ++ l1) V) := by
  have hbx := Box.new V #[v0, v1] 71
  have hb0 : Below V.heap.size V (V.alloc (.cells #[v0, v1] 71)) := (Below.refl _ V).alloc (Nat.le_refl _) _
  have hs := src_slices (W := V.alloc (.cells #[v0, v1] 71)) (X := V.heap.size) [l0, l1] [v0, v1] rfl (fun k v l h1 h2 => by
    match k, h1, h2 with
    | 0, h1, h2 => cases h1; cases h2; exact src_alloc s0 _
    | 1, h1, h2 => cases h1; cases h2; exact src_alloc s1 _
    | k + 2, h1, h2 => simp at h1) (fun k v h1 => hbx.cell k (by rw [← h1]; simp)) hbx.lt (by simp)
  have hj := concat_byte [l0, l1] _ _ hs (by simp; omega) (by simp)
  have e : [l0, l1].flatten = l0 ++ l1 := by simp
  rw [← e]
  refine hj.mono fun _ _ h => ?_
  obtain ⟨ao, m, c, he, s⟩ := mkb_of_bytes (bytes_of_join h)
  exact ⟨ao, m, c, he, s.le hb0⟩
theorem cat4_any {V : World} {l0 l1 l2 l3 : List UInt8} {v0 v1 v2 v3 : Value} (s0 : Src 1 ByteR Anyw V v0 l0) (s1 : Src 1 ByteR Anyw V v1 l1) (s2 : Src 1 ByteR Anyw V v2 l2) (s3 : Src 1 ByteR Anyw V v3 l3) (hlim : l0.length + l1.length + l2.length + l3.length ≤ 140737488355328) :
    Calls Tryz.prog 140 #[.slice (some ⟨V.heap.size, 0, none⟩) 4 4] (V.alloc (.cells #[v0, v1, v2, v3] 71)) (MkB (l0 ++ (l1 ++ (l2 ++ l3))) V) := by
  have hbx := Box.new V #[v0, v1, v2, v3] 71
  have hb0 : Below V.heap.size V (V.alloc (.cells #[v0, v1, v2, v3] 71)) := (Below.refl _ V).alloc (Nat.le_refl _) _
  have hs := src_slices (W := V.alloc (.cells #[v0, v1, v2, v3] 71)) (X := V.heap.size) [l0, l1, l2, l3] [v0, v1, v2, v3] rfl (fun k v l h1 h2 => by
    match k, h1, h2 with
    | 0, h1, h2 => cases h1; cases h2; exact src_alloc s0 _
    | 1, h1, h2 => cases h1; cases h2; exact src_alloc s1 _
    | 2, h1, h2 => cases h1; cases h2; exact src_alloc s2 _
    | 3, h1, h2 => cases h1; cases h2; exact src_alloc s3 _
    | k + 4, h1, h2 => simp at h1) (fun k v h1 => hbx.cell k (by rw [← h1]; simp)) hbx.lt (by simp)
  have hj := concat_byte [l0, l1, l2, l3] _ _ hs (by simp; omega) (by simp)
  have e : [l0, l1, l2, l3].flatten = l0 ++ (l1 ++ (l2 ++ l3)) := by simp
  rw [← e]
  refine hj.mono fun _ _ h => ?_
  obtain ⟨ao, m, c, he, s⟩ := mkb_of_bytes (bytes_of_join h)
  exact ⟨ao, m, c, he, s.le hb0⟩
theorem cat5_any {V : World} {l0 l1 l2 l3 l4 : List UInt8} {v0 v1 v2 v3 v4 : Value} (s0 : Src 1 ByteR Anyw V v0 l0) (s1 : Src 1 ByteR Anyw V v1 l1) (s2 : Src 1 ByteR Anyw V v2 l2) (s3 : Src 1 ByteR Anyw V v3 l3) (s4 : Src 1 ByteR Anyw V v4 l4) (hlim : l0.length + l1.length + l2.length + l3.length + l4.length ≤ 140737488355328) :
    Calls Tryz.prog 140 #[.slice (some ⟨V.heap.size, 0, none⟩) 5 5] (V.alloc (.cells #[v0, v1, v2, v3, v4] 71)) (MkB (l0 ++ (l1 ++ (l2 ++ (l3 ++ l4)))) V) := by
  have hbx := Box.new V #[v0, v1, v2, v3, v4] 71
  have hb0 : Below V.heap.size V (V.alloc (.cells #[v0, v1, v2, v3, v4] 71)) := (Below.refl _ V).alloc (Nat.le_refl _) _
  have hs := src_slices (W := V.alloc (.cells #[v0, v1, v2, v3, v4] 71)) (X := V.heap.size) [l0, l1, l2, l3, l4] [v0, v1, v2, v3, v4] rfl (fun k v l h1 h2 => by
    match k, h1, h2 with
    | 0, h1, h2 => cases h1; cases h2; exact src_alloc s0 _
    | 1, h1, h2 => cases h1; cases h2; exact src_alloc s1 _
    | 2, h1, h2 => cases h1; cases h2; exact src_alloc s2 _
    | 3, h1, h2 => cases h1; cases h2; exact src_alloc s3 _
    | 4, h1, h2 => cases h1; cases h2; exact src_alloc s4 _
    | k + 5, h1, h2 => simp at h1) (fun k v h1 => hbx.cell k (by rw [← h1]; simp)) hbx.lt (by simp)
  have hj := concat_byte [l0, l1, l2, l3, l4] _ _ hs (by simp; omega) (by simp)
  have e : [l0, l1, l2, l3, l4].flatten = l0 ++ (l1 ++ (l2 ++ (l3 ++ l4))) := by simp
  rw [← e]
  refine hj.mono fun _ _ h => ?_
  obtain ⟨ao, m, c, he, s⟩ := mkb_of_bytes (bytes_of_join h)
  exact ⟨ao, m, c, he, s.le hb0⟩
attribute [local go_sem ↓] Go.wp_at_zero Go.wp_at_succ
set_option maxHeartbeats 4000000 in
set_option maxRecDepth 100000 in
theorem putfield_any (f : Fld) (w : World) (hok : f.ok = true) :
    Calls Tryz.prog 146 #[fldV f] w (Bytes' w f.bytes) := by
  have hlen := fld_le hok
  have hn : f.name.length ≤ 32 := by unfold Fld.ok at hok; rw [Bool.and_eq_true] at hok; exact memB_len hok.1
  have hk : f.kind.length ≤ 38 := by unfold Fld.ok at hok; rw [Bool.and_eq_true] at hok; exact right_len hok.2
  have hb1 := text_le f.name 32 hn (by decide)
  have hb2 := text_le f.kind 38 hk (by decide)
  have HTX : Hid (∀ X W, W.cell? ⟨X, 0, none⟩ = some (.string (S f.name)) → W.cell? ⟨X, 1, none⟩ = some (.string (S f.kind)) → Calls Tryz.prog 141 #[.slice (some ⟨X, 0, none⟩) 2 2] W (Mk (textBytes f.name ++ textBytes f.kind) W)) := Lib.hid (fun X W h0 h1 =>
    (ctexts_any [f.name, f.kind] X 0 2 W (World.block_lt_of_cell? W _ h0) (fun j hj => by
      match j, hj with
      | 0, _ => simpa using h0
      | 1, _ => simpa using h1
      | j + 2, hj => exact absurd hj (by simp)) (by simp [textsMost]; omega) (by simp [texts]; omega)).mono fun _ _ h => by
        have q := mk_of_bytes h
        rw [show texts [f.name, f.kind] = textBytes f.name ++ textBytes f.kind from by simp [texts]] at q
        exact q)
  have HFL : Hid (∀ X W, W.cell? ⟨X, 0, none⟩ = some (.bool f.tr) → Calls Tryz.prog 144 #[.slice (some ⟨X, 0, none⟩) 1 1] W (Mk [flagByte f.tr] W)) := Lib.hid (fun X W h0 =>
    (cflags_any [f.tr] X 0 1 W (World.block_lt_of_cell? W _ h0) (fun j hj => by
      match j, hj with
      | 0, _ => simpa using h0
      | j + 1, hj => exact absurd hj (by simp)) (by simp) (by simp)).mono fun _ _ h => mk_of_bytes h)
  have HCO : Hid (∀ V v0 v1, Src 1 ByteR Anyw V v0 (textBytes f.name ++ textBytes f.kind) → Src 1 ByteR Anyw V v1 ([flagByte f.tr]) → Calls Tryz.prog 140 #[.slice (some ⟨V.heap.size, 0, none⟩) 2 2] (V.alloc (.cells #[v0, v1] 71)) (MkB (f.bytes) V)) := Lib.hid (fun V v0 v1 s0 s1 =>
    cat2_any s0 s1 (by simp; omega))
  have hb0 : Below w.heap.size w (w.alloc (.cells #[.string (S f.name), .string (S f.kind), .bool f.tr] 62)) := (Below.refl _ w).alloc (Nat.le_refl _) _
  have HB0 := Lib.hid hb0
  have HS : Hid (∀ W, Below (w.alloc (.cells #[.string (S f.name), .string (S f.kind), .bool f.tr] 62)).heap.size (w.alloc (.cells #[.string (S f.name), .string (S f.kind), .bool f.tr] 62)) W → W.cell? ⟨w.heap.size, 0, none⟩ = some (.string (S f.name)) ∧ W.cell? ⟨w.heap.size, 1, none⟩ = some (.string (S f.kind)) ∧ W.cell? ⟨w.heap.size, 2, none⟩ = some (.bool f.tr)) := Lib.hid (fun W hW => by
    have hx := (Box.new w #[.string (S f.name), .string (S f.kind), .bool f.tr] 62).below hW
    exact ⟨hx.cell 0 rfl, hx.cell 1 rfl, hx.cell 2 rfl⟩)
  clear hlen hok hb0
  generalize textBytes f.name ++ textBytes f.kind = L0 at *
  generalize f.bytes = LB at *
  obtain ⟨name, kind, tr⟩ := f
  dsimp only at *
  clear hn hk hb1 hb2
  generalize flagByte tr = fb at *
  go_enter Tryz.func146, Tryz.ntmps146
  go_upto_region 1 with fail
  generalize w.alloc (.cells #[.string (S name), .string (S kind), .bool tr] 62) = W0 at HS HB0 ⊢
  generalize w.heap.size = B at HS ⊢
  obtain ⟨g0, g1, g2⟩ := HS.out _ (Below.refl _ W0)
  first
  | (go_region_held (fun W => W.cell? ⟨B, 0, none⟩ = some (.string (S name)) ∧ W.cell? ⟨B, 1, none⟩ = some (.string (S kind)) ∧ W.cell? ⟨B, 2, none⟩ = some (.bool tr)) ((refine HS.out _ ?_; (repeat (first | (with_reducible exact Below.refl _ _) | (with_reducible (apply below_step; rotate_left; assumption)) | (with_reducible refine below_alloc ?_ _) | (with_reducible refine below_drew ?_)))))
      (first
       | (go_at_call 141; refine (HTX.out _ _ ?_ ?_).mono ?_; (focus ((repeat (first | (simp; done) | (with_reducible (apply cell_step; rotate_left; assumption)) | ((with_reducible refine cell_new ?_ ?_); (focus (simp; done)); (focus (simp; done))) | (with_reducible refine cell_drew ?_) | (with_reducible refine cell_alloc ?_ _))); done)); (focus ((repeat (first | (simp; done) | (with_reducible (apply cell_step; rotate_left; assumption)) | ((with_reducible refine cell_new ?_ ?_); (focus (simp; done)); (focus (simp; done))) | (with_reducible refine cell_drew ?_) | (with_reducible refine cell_alloc ?_ _))); done)); rintro e w' ⟨ao, m, c, rfl, s, b⟩)
       | (go_at_call 144; refine (HFL.out _ _ ?_).mono ?_; (focus ((repeat (first | (simp; done) | (with_reducible (apply cell_step; rotate_left; assumption)) | ((with_reducible refine cell_new ?_ ?_); (focus (simp; done)); (focus (simp; done))) | (with_reducible refine cell_drew ?_) | (with_reducible refine cell_alloc ?_ _))); done)); rintro e w' ⟨ao, m, c, rfl, s, b⟩)
       | (go_at_call 140; refine (HCO.out _ _ _ ?_ ?_).mono ?_; (focus ((repeat (first | (with_reducible assumption) | (with_reducible (apply src_step; rotate_left; assumption)) | (with_reducible refine src_alloc ?_ _) | (with_reducible refine src_drew ?_))); done)); (focus ((repeat (first | (with_reducible assumption) | (with_reducible (apply src_step; rotate_left; assumption)) | (with_reducible refine src_alloc ?_ _) | (with_reducible refine src_drew ?_))); done)); rintro e w' ⟨ao, m, c, rfl, s⟩; have b := s.bel)))
  | fail
  all_goals
    go_wp2
    go_ret
    exact ⟨_, rfl, s.le (by (repeat (first | (with_reducible exact HB0.out) | (with_reducible (apply below_step; rotate_left; assumption)) | (with_reducible refine below_alloc ?_ _) | (with_reducible refine below_drew ?_))))⟩
set_option maxHeartbeats 4000000 in
set_option maxRecDepth 100000 in
theorem putcatch_any (x : Cat) (n : Nat) (w : World) (hok : Cat.ok n x = true) (hn : n ≤ 200) :
    Calls Tryz.prog 213 #[catV x] w (Bytes' w x.bytes) := by
  obtain ⟨k1, k2, k3, k4⟩ := cat_nums hok hn
  have hk := classB_len k4
  have hb1 := text_le x.cls 32 hk (by decide)
  have u1 := uv200 k1.2
  have u2 := uv200 k2.2
  have u3 := uv200 k3.2
  have HNM : Hid (∀ X W, W.cell? ⟨X, 0, none⟩ = some (.int .i64 x.fr) → W.cell? ⟨X, 1, none⟩ = some (.int .i64 x.till) → W.cell? ⟨X, 2, none⟩ = some (.int .i64 x.at_) → Calls Tryz.prog 208 #[.slice (some ⟨X, 0, none⟩) 3 3] W (Mk (Lib.uvarint x.fr.toNat ++ (Lib.uvarint x.till.toNat ++ Lib.uvarint x.at_.toNat)) W)) := Lib.hid (fun X W h0 h1 h2 =>
    (cnums_any [x.fr.toNat, x.till.toNat, x.at_.toNat] X 0 3 W (fun j x hx => by
      match j, hx with
      | 0, hx => cases hx; rw [Int.toNat_of_nonneg (by omega)]; simpa using h0
      | 1, hx => cases hx; rw [Int.toNat_of_nonneg (by omega)]; simpa using h1
      | 2, hx => cases hx; rw [Int.toNat_of_nonneg (by omega)]; simpa using h2
      | j + 3, hx => simp at hx) (fun x hx => by simp at hx; omega) (by simp)).mono fun _ _ h => by
        have q := mk_of_bytes h
        rw [show nums [x.fr.toNat, x.till.toNat, x.at_.toNat] = Lib.uvarint x.fr.toNat ++ (Lib.uvarint x.till.toNat ++ Lib.uvarint x.at_.toNat) from by simp [nums]] at q
        exact q)
  have HTX : Hid (∀ X W, W.cell? ⟨X, 0, none⟩ = some (.string (S x.cls)) → Calls Tryz.prog 141 #[.slice (some ⟨X, 0, none⟩) 1 1] W (Mk (textBytes x.cls) W)) := Lib.hid (fun X W h0 =>
    (ctexts_any [x.cls] X 0 1 W (World.block_lt_of_cell? W _ h0) (fun j hj => by
      match j, hj with
      | 0, _ => simpa using h0
      | j + 1, hj => exact absurd hj (by simp)) (by simp [textsMost]; omega) (by simp [texts]; omega)).mono fun _ _ h => by
        have q := mk_of_bytes h
        rw [show texts [x.cls] = textBytes x.cls from by simp [texts]] at q
        exact q)
  have HCO : Hid (∀ V v0 v1, Src 1 ByteR Anyw V v0 (Lib.uvarint x.fr.toNat ++ (Lib.uvarint x.till.toNat ++ Lib.uvarint x.at_.toNat)) → Src 1 ByteR Anyw V v1 (textBytes x.cls) → Calls Tryz.prog 140 #[.slice (some ⟨V.heap.size, 0, none⟩) 2 2] (V.alloc (.cells #[v0, v1] 71)) (MkB (x.bytes) V)) := Lib.hid (fun V v0 v1 s0 s1 =>
    cat2_any s0 s1 (by simp; omega))
  have hb0 : Below w.heap.size w (w.alloc (.cells #[.int .i64 x.fr, .int .i64 x.till, .int .i64 x.at_, .string (S x.cls)] 141)) := (Below.refl _ w).alloc (Nat.le_refl _) _
  have HB0 := Lib.hid hb0
  have HS : Hid (∀ W, Below (w.alloc (.cells #[.int .i64 x.fr, .int .i64 x.till, .int .i64 x.at_, .string (S x.cls)] 141)).heap.size (w.alloc (.cells #[.int .i64 x.fr, .int .i64 x.till, .int .i64 x.at_, .string (S x.cls)] 141)) W → W.cell? ⟨w.heap.size, 0, none⟩ = some (.int .i64 x.fr) ∧ W.cell? ⟨w.heap.size, 1, none⟩ = some (.int .i64 x.till) ∧ W.cell? ⟨w.heap.size, 2, none⟩ = some (.int .i64 x.at_) ∧ W.cell? ⟨w.heap.size, 3, none⟩ = some (.string (S x.cls))) := Lib.hid (fun W hW => by
    have hx := (Box.new w #[.int .i64 x.fr, .int .i64 x.till, .int .i64 x.at_, .string (S x.cls)] 141).below hW
    exact ⟨hx.cell 0 rfl, hx.cell 1 rfl, hx.cell 2 rfl, hx.cell 3 rfl⟩)
  clear k1 k2 k3 k4 hk hb1 u1 u2 u3 hok hn hb0
  generalize Lib.uvarint x.fr.toNat ++ (Lib.uvarint x.till.toNat ++ Lib.uvarint x.at_.toNat) = L0 at *
  generalize textBytes x.cls = L1 at *
  generalize x.bytes = LB at *
  obtain ⟨fr, tl, at_, cls⟩ := x
  dsimp only at *
  go_enter Tryz.func213, Tryz.ntmps213
  go_upto_region 1 with fail
  generalize w.alloc (.cells #[.int .i64 fr, .int .i64 tl, .int .i64 at_, .string (S cls)] 141) = W0 at HS HB0 ⊢
  generalize w.heap.size = B at HS ⊢
  obtain ⟨g0, g1, g2, g3⟩ := HS.out _ (Below.refl _ W0)
  first
  | (go_region_held (fun W => W.cell? ⟨B, 0, none⟩ = some (.int .i64 fr) ∧ W.cell? ⟨B, 1, none⟩ = some (.int .i64 tl) ∧ W.cell? ⟨B, 2, none⟩ = some (.int .i64 at_) ∧ W.cell? ⟨B, 3, none⟩ = some (.string (S cls))) ((refine HS.out _ ?_; (repeat (first | (with_reducible exact Below.refl _ _) | (with_reducible (apply below_step; rotate_left; assumption)) | (with_reducible refine below_alloc ?_ _) | (with_reducible refine below_drew ?_)))))
      (first
       | (go_at_call 208; refine (HNM.out _ _ ?_ ?_ ?_).mono ?_; (focus ((repeat (first | (simp; done) | (with_reducible (apply cell_step; rotate_left; assumption)) | ((with_reducible refine cell_new ?_ ?_); (focus (simp; done)); (focus (simp; done))) | (with_reducible refine cell_drew ?_) | (with_reducible refine cell_alloc ?_ _))); done)); (focus ((repeat (first | (simp; done) | (with_reducible (apply cell_step; rotate_left; assumption)) | ((with_reducible refine cell_new ?_ ?_); (focus (simp; done)); (focus (simp; done))) | (with_reducible refine cell_drew ?_) | (with_reducible refine cell_alloc ?_ _))); done)); (focus ((repeat (first | (simp; done) | (with_reducible (apply cell_step; rotate_left; assumption)) | ((with_reducible refine cell_new ?_ ?_); (focus (simp; done)); (focus (simp; done))) | (with_reducible refine cell_drew ?_) | (with_reducible refine cell_alloc ?_ _))); done)); rintro e w' ⟨ao, m, c, rfl, s, b⟩)
       | (go_at_call 141; refine (HTX.out _ _ ?_).mono ?_; (focus ((repeat (first | (simp; done) | (with_reducible (apply cell_step; rotate_left; assumption)) | ((with_reducible refine cell_new ?_ ?_); (focus (simp; done)); (focus (simp; done))) | (with_reducible refine cell_drew ?_) | (with_reducible refine cell_alloc ?_ _))); done)); rintro e w' ⟨ao, m, c, rfl, s, b⟩)
       | (go_at_call 140; refine (HCO.out _ _ _ ?_ ?_).mono ?_; (focus ((repeat (first | (with_reducible assumption) | (with_reducible (apply src_step; rotate_left; assumption)) | (with_reducible refine src_alloc ?_ _) | (with_reducible refine src_drew ?_))); done)); (focus ((repeat (first | (with_reducible assumption) | (with_reducible (apply src_step; rotate_left; assumption)) | (with_reducible refine src_alloc ?_ _) | (with_reducible refine src_drew ?_))); done)); rintro e w' ⟨ao, m, c, rfl, s⟩; have b := s.bel)))
  | fail
  all_goals
    go_wp2
    go_ret
    exact ⟨_, rfl, s.le (by (repeat (first | (with_reducible exact HB0.out) | (with_reducible (apply below_step; rotate_left; assumption)) | (with_reducible refine below_alloc ?_ _) | (with_reducible refine below_drew ?_))))⟩
end Go.Proofs.YtpincofjopmaaaaGreatDoor
namespace Go.Proofs.YtpincofjopmaaaaGreatDoor
open Go.RowKit
theorem Src.elem {α : Type} {n : Nat} {R : ElemRel α} {A : Nat → Prop} {w : World} {so : Option Addr} {m sc : Nat} {l : List α} (hs : Src n R A w (.slice so m sc) l) :
    ∀ (k : Nat) (x : α), l[k]? = some x → ∃ b o v, so = some ⟨b, o, none⟩ ∧ R A w x v ∧ v.cells.size = n ∧ ∀ (j : Nat) u, v.cells[j]? = some u → w.cell? ⟨b, o + k * n + j, none⟩ = some u := by
  intro k x hx
  rcases hs with ⟨ao, cp0, he, rfl⟩ | ⟨b, o, cap, he, _, hc⟩
  · simp at hx
  · simp at he
    obtain ⟨v, hv, hsz, hcl⟩ := hc k x hx
    exact ⟨b, o, v, he.1, hv, hsz, hcl⟩
set_option maxHeartbeats 4000000 in
set_option maxRecDepth 100000 in
theorem any_take {α : Type} {p : α → Bool} {l : List α} {k : Nat} (h : (l.take k).any p = true) : l.any p = true := by
  rw [List.any_eq_true] at h ⊢
  obtain ⟨x, hx, hp⟩ := h
  exact ⟨x, List.mem_of_mem_take hx, hp⟩
set_option maxHeartbeats 4000000 in
set_option maxRecDepth 100000 in
theorem refmany_any {A : Nat → Prop} (c : Cls) (v : Value) (w : World) (hv : ClsR A w c v) (hfit : c.Fit) :
    Calls Tryz.prog 56 #[v] w (Said c.many w) := by
  obtain ⟨lv, fv, mv, rfl, hl, hf, hm⟩ := hv
  obtain ⟨lo, lc, rfl⟩ := hl.shape
  obtain ⟨fo, fc, rfl⟩ := hf.shape
  obtain ⟨mo, mc, rfl⟩ := hm.shape
  have hb0 : Below w.heap.size w (w.alloc (.cells #[.string (S c.name), .string (S c.sup), .slice lo c.like.length lc, .bool c.itf, .bool c.abs, .bool c.fin, .slice fo c.flds.length fc, .slice mo c.mths.length mc] 26)) := (Below.refl _ w).alloc (Nat.le_refl _) _
  have HB0 := Lib.hid hb0
  have HBX := Lib.hid (Box.new w #[.string (S c.name), .string (S c.sup), .slice lo c.like.length lc, .bool c.itf, .bool c.abs, .bool c.fin, .slice fo c.flds.length fc, .slice mo c.mths.length mc] 26)
  have HC := Lib.hid (Src.elem (MthR.st.below hm hb0))
  obtain ⟨n, hn⟩ : ∃ n, n = c.mths.length := ⟨_, rfl⟩
  have HN := Lib.hid hn
  have hn3 : n ≤ 9223372036854775807 := by rw [hn]; exact hfit.n3
  have hn1 := hfit.n1
  have hn2 := hfit.n2
  have hMA : c.many = (decide (32 < c.like.length) || (decide (32 < c.flds.length) || (decide (32 < n) || c.mths.any Mth.many))) := by rw [hn]; rfl
  have HMA := Lib.hid hMA
  rw [← hn] at hb0 HB0 HBX HC ⊢
  obtain ⟨R, hR⟩ : ∃ R, R = c.many := ⟨_, rfl⟩
  rw [← hR] at HMA ⊢
  have HF : Hid (∀ x ∈ c.mths, x.Fit) := Lib.hid hfit.mths
  clear hl hf hm hb0 hn hMA hR hfit
  go_enter Tryz.func56, Tryz.ntmps56
  go_wp2
  generalize w.alloc (.cells #[.string (S c.name), .string (S c.sup), .slice lo c.like.length lc, .bool c.itf, .bool c.abs, .bool c.fin, .slice fo c.flds.length fc, .slice mo n mc] 26) = W0 at HB0 HBX HC ⊢
  obtain ⟨B, hB⟩ : ∃ B, B = w.heap.size := ⟨_, rfl⟩
  rw [← hB] at HBX ⊢
  clear hB
  go_loopw [3] (fun v3 wr => ∃ k : Nat, k ≤ n ∧ v3 = .int .i64 k ∧ (c.mths.take k).any Mth.many = false ∧ Below W0.heap.size W0 wr) (fun v3 _ => n - (intOf v3).toNat)
  case atStart => exact ⟨0, Nat.zero_le _, rfl, by simp, Below.refl _ _⟩
  case round =>
    obtain ⟨k, hk, rfl, hall, hbw⟩ := hrel
    have HA := Lib.hid hall
    have HBW := Lib.hid hbw
    have c7 := (HBX.out.below hbw).cell 7 rfl
    clear hall hbw
    by_cases hlt : k < n
    · have hkl : k < c.mths.length := by have := HN.out; omega
      obtain ⟨x, hx⟩ : ∃ x, c.mths[k]? = some x := ⟨_, List.getElem?_eq_getElem hkl⟩
      have hoW := Only.ofBelow (S := fun _ => False) HBW.out
      obtain ⟨b, o, v, rfl, hv, hsz, hcl⟩ := HC.out k x hx
      have HV := Lib.hid (MthR.st.keep hv hoW (fun _ _ => id))
      obtain ⟨_, _, _, rfl, ⟨po, pc, rfl⟩, ⟨co, cc, rfl⟩, ⟨ko, kc, rfl⟩⟩ := mth_shape hv
      have d0 : wr.cell? ⟨b, o + k * 7, none⟩ = some (.string (S x.name)) := hoW.cell (a := ⟨b, o + k * 7, none⟩) (hcl 0 _ rfl) id
      have d1 : wr.cell? ⟨b, o + k * 7 + 1, none⟩ = some (.slice po x.params.length pc) := hoW.cell (a := ⟨b, o + k * 7 + 1, none⟩) (hcl 1 _ rfl) id
      have d2 : wr.cell? ⟨b, o + k * 7 + 2, none⟩ = some (.string (S x.res)) := hoW.cell (a := ⟨b, o + k * 7 + 2, none⟩) (hcl 2 _ rfl) id
      have d3 : wr.cell? ⟨b, o + k * 7 + 3, none⟩ = some (.bool x.abs) := hoW.cell (a := ⟨b, o + k * 7 + 3, none⟩) (hcl 3 _ rfl) id
      have d4 : wr.cell? ⟨b, o + k * 7 + 4, none⟩ = some (.int .i64 x.loc) := hoW.cell (a := ⟨b, o + k * 7 + 4, none⟩) (hcl 4 _ rfl) id
      have d5 : wr.cell? ⟨b, o + k * 7 + 5, none⟩ = some (.slice co x.code.length cc) := hoW.cell (a := ⟨b, o + k * 7 + 5, none⟩) (hcl 5 _ rfl) id
      have d6 : wr.cell? ⟨b, o + k * 7 + 6, none⟩ = some (.slice ko x.cats.length kc) := hoW.cell (a := ⟨b, o + k * 7 + 6, none⟩) (hcl 6 _ rfl) id
      clear hcl hsz
      have HX := Lib.hid hx
      have hts := take_any_succ Mth.many c.mths k x hx
      rw [HA.out, Bool.false_or] at hts
      have HTS := Lib.hid hts
      clear hx hkl hoW hts
      have hk0 : (0 : Int) ≤ k := by omega
      have hkn : (k : Int) < (n : Int) := by omega
      by_cases h1 : 32 < x.params.length
      · have ih1 : 32 < (x.params.length : Int) := by omega
        have hmx : x.many = true := by unfold Mth.many; simp [h1]
        rw [hmx] at HTS
        have hR : R = true := by rw [HMA.out, any_take HTS.out]; simp
        subst hR
        have HBE := Lib.hid (HB0.out.trans ((below_alloc HBW.out _).mono HB0.out.size) : Below w.heap.size w (wr.alloc (.cells #[.string (S x.name), .slice po x.params.length pc, .string (S x.res), .bool x.abs, .int .i64 x.loc, .slice co x.code.length cc, .slice ko x.cats.length kc] 33)))
        clear hmx h1
        go_wp2
        go_ret
        exact ⟨ret_bool (rfl), HBE.out⟩
      · have ih1 : ¬ (32 < (x.params.length : Int)) := by omega
        by_cases h2 : 32 < x.cats.length
        · have ih2 : 32 < (x.cats.length : Int) := by omega
          have hmx : x.many = true := by unfold Mth.many; simp [h1, h2]
          rw [hmx] at HTS
          have hR : R = true := by rw [HMA.out, any_take HTS.out]; simp
          subst hR
          have HBE := Lib.hid (HB0.out.trans ((below_alloc HBW.out _).mono HB0.out.size) : Below w.heap.size w (wr.alloc (.cells #[.string (S x.name), .slice po x.params.length pc, .string (S x.res), .bool x.abs, .int .i64 x.loc, .slice co x.code.length cc, .slice ko x.cats.length kc] 33)))
          clear hmx h1 h2
          go_wp2
          go_ret
          exact ⟨ret_bool (rfl), HBE.out⟩
        · have ih2 : ¬ (32 < (x.cats.length : Int)) := by omega
          by_cases h3 : 200 < x.code.length
          · have ih3 : 200 < (x.code.length : Int) := by omega
            have hmx : x.many = true := by unfold Mth.many; simp [h1, h2, h3]
            rw [hmx] at HTS
            have hR : R = true := by rw [HMA.out, any_take HTS.out]; simp
            subst hR
            have HBE := Lib.hid (HB0.out.trans ((below_alloc HBW.out _).mono HB0.out.size) : Below w.heap.size w (wr.alloc (.cells #[.string (S x.name), .slice po x.params.length pc, .string (S x.res), .bool x.abs, .int .i64 x.loc, .slice co x.code.length cc, .slice ko x.cats.length kc] 33)))
            clear hmx h1 h2 h3
            go_wp2
            go_ret
            exact ⟨ret_bool (rfl), HBE.out⟩
          · have ih3 : ¬ (200 < (x.code.length : Int)) := by omega
            by_cases h4 : 64 < x.loc
            · have ih4 : 64 < x.loc := by omega
              have hmx : x.many = true := by unfold Mth.many; simp [h1, h2, h3, h4]
              rw [hmx] at HTS
              have hR : R = true := by rw [HMA.out, any_take HTS.out]; simp
              subst hR
              have HBE := Lib.hid (HB0.out.trans ((below_alloc HBW.out _).mono HB0.out.size) : Below w.heap.size w (wr.alloc (.cells #[.string (S x.name), .slice po x.params.length pc, .string (S x.res), .bool x.abs, .int .i64 x.loc, .slice co x.code.length cc, .slice ko x.cats.length kc] 33)))
              clear hmx h1 h2 h3 h4
              go_wp2
              go_ret
              exact ⟨ret_bool (rfl), HBE.out⟩
            · have ih4 : ¬ (64 < x.loc) := by omega
              have hmx : x.many = false := by unfold Mth.many; simp [h1, h2, h3, h4]
              rw [hmx] at HTS
              clear hmx h1 h2 h3 h4
              go_wp2
              go_roundw
              case rel => exact ⟨k + 1, by omega, by go_num, HTS.out, below_alloc HBW.out _⟩
              case measure => simp [intOf]; omega
    · obtain rfl : k = n := by omega
      have hfa : c.mths.any Mth.many = false := by
        have h := HA.out
        rw [HN.out, List.take_of_length_le (Nat.le_refl _)] at h
        exact h
      rw [hfa, Bool.or_false] at HMA
      have hbE : Below w.heap.size w wr := HB0.out.trans (HBW.out.mono HB0.out.size)
      have HBE := Lib.hid hbE
      have c2 := (HBX.out.below HBW.out).cell 2 rfl
      have c6 := (HBX.out.below HBW.out).cell 6 rfl
      clear hfa hbE
      by_cases h1 : 32 < c.like.length
      · have ih1 : 32 < (c.like.length : Int) := by omega
        obtain rfl : R = true := by rw [HMA.out]; simp [h1]
        clear h1
        go_wp2
        go_ret
        exact ⟨ret_bool (rfl), HBE.out⟩
      · have ih1 : ¬ (32 < (c.like.length : Int)) := by omega
        by_cases h2 : 32 < c.flds.length
        · have ih2 : 32 < (c.flds.length : Int) := by omega
          obtain rfl : R = true := by rw [HMA.out]; simp [h1, h2]
          clear h1 h2
          go_wp2
          go_ret
          exact ⟨ret_bool (rfl), HBE.out⟩
        · have ih2 : ¬ (32 < (c.flds.length : Int)) := by omega
          by_cases h3 : 32 < k
          · have ih3 : 32 < (k : Int) := by omega
            obtain rfl : R = true := by rw [HMA.out]; simp [h1, h2, h3]
            clear h1 h2 h3
            go_wp2
            go_ret
            exact ⟨ret_bool (rfl), HBE.out⟩
          · have ih3 : ¬ (32 < (k : Int)) := by omega
            obtain rfl : R = false := by rw [HMA.out]; simp [h1, h2, h3]
            clear h1 h2 h3
            go_wp2
            go_ret
            exact ⟨ret_bool (rfl), HBE.out⟩
end Go.Proofs.YtpincofjopmaaaaGreatDoor
namespace Go.Proofs.YtpincofjopmaaaaGreatDoor
open Go.RowKit
/-- A pointer to an entry. -/
abbrev entV (B : Nat → Nat) (i : Nat) : Value := .pointer (some ⟨B i, 0, none⟩)
abbrev EntP (B : Nat → Nat) : ElemRel Nat := Flat (entV B)
theorem EntP.st (B : Nat → Nat) : Stays (EntP B) := Flat.stays _
/-- A bool comes back: Y holds behind yes, N behind no. -/
def YesNo (Y N : World → Prop) (e : Ending) (w' : World) : Prop := ∃ b, e = .returned (.bool b) ∧ (b = true → Y w') ∧ (b = false → N w')
theorem YesNo.mono {Y N Y' N' : World → Prop} {e : Ending} {w' : World} (h : YesNo Y N e w') (hY : ∀ w, Y w → Y' w) (hN : ∀ w, N w → N' w) : YesNo Y' N' e w' := by
  obtain ⟨b, e1, h1, h2⟩ := h
  exact ⟨b, e1, fun q => hY _ (h1 q), fun q => hN _ (h2 q)⟩
theorem YesNo.mono' {Y N Y' N' : World → Prop} {e : Ending} {w' : World} (h : YesNo Y N e w') (hY : Y w' → Y' w') (hN : N w' → N' w') : YesNo Y' N' e w' := by
  obtain ⟨b, e1, h1, h2⟩ := h
  exact ⟨b, e1, fun q => hY (h1 q), fun q => hN (h2 q)⟩
/-- What a function handed to a search does at each element: as long as it says no, J goes on. -/
def Steps (B : Nat → Nat) (F : Nat) (caps : Array Value) (l : List Nat) (J K : Nat → World → Prop) : Prop :=
  ∀ (k x : Nat) (w : World), l[k]? = some x → J k w → Calls Tryz.prog F (#[entV B x] ++ caps) w (YesNo (K k) (J (k + 1)))
def Placed (n : Nat) (J K : Nat → World → Prop) (e : Ending) (w' : World) : Prop := ∃ z : Int, e = .returned (.int .i64 z) ∧ ((0 ≤ z ∧ ∃ k, k < n ∧ z = (k : Int) ∧ K k w') ∨ (z < 0 ∧ J n w'))
set_option maxHeartbeats 2000000 in
set_option maxRecDepth 100000 in
theorem indexf_ent {B : Nat → Nat} {A : Nat → Prop} (F : Nat) (caps : Array Value) (l : List Nat) (so : Option Addr) (cp : Nat) (J K : Nat → World → Prop) (w : World) (he : ∀ args w, (callFunc F args).run Tryz.prog w = .ok (.enter F args) w)
    (hst : ∀ k w', J k w' → Src 1 (EntP B) A w' (.slice so l.length cp) l) (h0 : J 0 w) (hF : Steps B F caps l J K) (hlen : l.length ≤ 9223372036854775807) :
    Calls Tryz.prog 242 #[.slice so l.length cp, .func (.func F) #[] caps] w (Placed l.length J K) := by
  have HF := Lib.hid hF
  have HE := Lib.hid he
  have HS := Lib.hid hst
  have H0 := Lib.hid h0
  obtain ⟨n, hn⟩ : ∃ n, n = l.length := ⟨_, rfl⟩
  rw [← hn] at hlen ⊢
  simp only [← hn] at HS
  have HN := Lib.hid hn
  clear hF he hst h0 hn
  go_enter Tryz.func242, Tryz.ntmps242
  go_wp2
  go_loopw [8] (fun v8 wr => ∃ k : Nat, k ≤ n ∧ v8 = .int .i64 k ∧ J k wr) (fun v8 _ => n - (intOf v8).toNat)
  case atStart => exact ⟨0, Nat.zero_le _, rfl, H0.out⟩
  case round =>
    obtain ⟨k, hk, rfl, hj⟩ := hrel
    have HJ := Lib.hid hj
    clear hj
    by_cases hlt : k < n
    · have hkl : k < l.length := by have := HN.out; omega
      obtain ⟨x, hx⟩ : ∃ x, l[k]? = some x := ⟨_, List.getElem?_eq_getElem hkl⟩
      obtain ⟨b, o, v, rfl, hv, _, hcl⟩ := Src.elem (HS.out k wr HJ.out) k x hx
      obtain rfl := hv
      have d0 : wr.cell? ⟨b, o + k, none⟩ = some (entV B x) := by have q := hcl 0 _ rfl; rw [Nat.mul_one] at q; exact q
      clear hcl
      have HX := Lib.hid hx
      clear hx hkl
      have hk0 : (0 : Int) ≤ k := by omega
      have hkn : (k : Int) < (n : Int) := by omega
      have he := HE.out
      go_wp2_with fail
      refine (HF.out k x wr HX.out HJ.out).mono ?_
      rintro e w1 ⟨b', rfl, hy, hno⟩
      have HY := Lib.hid hy
      have HNO := Lib.hid hno
      clear he d0 hy hno
      cases b' with
      | true =>
        have HK := Lib.hid (HY.out rfl)
        clear HY HNO
        go_wp2
        go_ret
        exact ⟨k, rfl, Or.inl ⟨by omega, k, hlt, rfl, HK.out⟩⟩
      | false =>
        have HK := Lib.hid (HNO.out rfl)
        clear HY HNO
        go_wp2
        go_roundw
        case rel => exact ⟨k + 1, by omega, by go_num, HK.out⟩
        case measure => simp [intOf]; omega
    · obtain rfl : n = k := by omega
      go_wp2
      go_ret
      exact ⟨-1, rfl, Or.inr ⟨by decide, HJ.out⟩⟩
set_option maxHeartbeats 2000000 in
set_option maxRecDepth 100000 in
theorem contf_ent {B : Nat → Nat} {A : Nat → Prop} (F : Nat) (caps : Array Value) (l : List Nat) (sv : Value) (J K : Nat → World → Prop) (w : World) (he : ∀ args w, (callFunc F args).run Tryz.prog w = .ok (.enter F args) w)
    (hst : ∀ k w', J k w' → Src 1 (EntP B) A w' sv l) (h0 : J 0 w) (hF : Steps B F caps l J K) (hlen : l.length ≤ 9223372036854775807) :
    Calls Tryz.prog 183 #[sv, .func (.func F) #[] caps] w (YesNo (fun w' => ∃ k, k < l.length ∧ K k w') (J l.length)) := by
  obtain ⟨so, cp, rfl⟩ := (hst 0 w h0).shape
  have HI := Lib.hid (indexf_ent F caps l so cp J K w he hst h0 hF hlen)
  generalize l.length = n at HI ⊢
  clear he hst h0 hF hlen
  go_enter Tryz.func183, Tryz.ntmps183
  go_wp2_with fail
  refine HI.out.mono ?_
  rintro e w1 ⟨z, rfl, hz⟩
  have HZ := Lib.hid hz
  rcases hz with ⟨h1, _⟩ | ⟨h1, _⟩
  · have HK : Hid (∃ k, k < n ∧ K k w1) := Lib.hid (by
      rcases HZ.out with ⟨_, k, hk, _, h⟩ | ⟨h2, _⟩
      · exact ⟨k, hk, h⟩
      · omega)
    clear HZ
    go_wp2
    go_ret
    exact ⟨true, rfl, fun _ => HK.out, (fun h => by cases h)⟩
  · have HK : Hid (J n w1) := Lib.hid (by
      rcases HZ.out with ⟨h2, _⟩ | ⟨_, h⟩
      · omega
      · exact h)
    have h0 : decide (0 ≤ z) = false := by rw [decide_eq_false_iff_not]; omega
    clear HZ
    go_wp2
    go_ret
    exact ⟨false, rfl, (fun h => by cases h), fun _ => HK.out⟩
end Go.Proofs.YtpincofjopmaaaaGreatDoor
