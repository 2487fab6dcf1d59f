/-
  The contracts of package class's small tests: member, validField, validCatch, validInstr, tooManyInMethod, and of its closures.
  Conditions: the tables hold what they hold at the start; texts and lists that a machine may hold.
  The contracts of slices.Concat at two, four and five slices of bytes; package class's putField and putCatch.
  Conditions: the slices lie in memory that was there before; all together they have at most 2^47 bytes.
-/
import Derived.Test.YtpincofjopmaaaaGreatDoorM20
import Derived.Test.YtpincofjopmaaaaGreatDoorM21
import Derived.Test.YtpincofjopmaaaaGreatDoorM06
import Derived.Test.YtpincofjopmaaaaGreatDoorM17
import Derived.Deep.RegionHeld
import Derived.Deep.DrawnRows
import Derived.Deep.Cut
namespace Go.Proofs.YtpincofjopmaaaaGreatDoor
open Go.RowKit
/-- A text that a machine may hold. -/
def strOk (s : List UInt8) : Prop := s.length ≤ 9223372036854775807
structure Mth.Fit (m : Mth) : Prop where
  name : strOk m.name
  res : strOk m.res
  params : ∀ x ∈ m.params, strOk x
  code : ∀ x ∈ m.code, strOk x.s
  cats : ∀ x ∈ m.cats, strOk x.cls
  n1 : m.params.length ≤ 9223372036854775807
  n2 : m.code.length ≤ 9223372036854775807
  n3 : m.cats.length ≤ 9223372036854775807
structure Cls.Fit (c : Cls) : Prop where
  name : strOk c.name
  sup : strOk c.sup
  like : ∀ x ∈ c.like, strOk x
  flds : ∀ f ∈ c.flds, strOk f.name ∧ strOk f.kind
  mths : ∀ m ∈ c.mths, m.Fit
  n1 : c.like.length ≤ 9223372036854775807
  n2 : c.flds.length ≤ 9223372036854775807
  n3 : c.mths.length ≤ 9223372036854775807
set_option maxHeartbeats 4000000 in
set_option maxRecDepth 100000 in
theorem member_any (s : List UInt8) (w : World) (hs : strOk s) :
    Calls Tryz.prog 173 #[.string (S s)] w (Said (memB s) w) := by
  have HN := Lib.hid (name_any s w hs)
  have HC : Hid (∀ w, Calls Tryz.prog 162 #[.string (S s)] w (Said (classB s) w)) := Lib.hid (fun w => class_any s w hs)
  unfold memB
  generalize nameB s = a at HN ⊢
  generalize classB s = b at HC ⊢
  clear hs
  go_enter Tryz.func173, Tryz.ntmps173
  go_wp2_with fail
  refine HN.out.mono ?_
  rintro e w1 ⟨rfl, hb1⟩
  cases a
  · go_wp2
    go_ret
    exact ⟨rfl, hb1⟩
  · have HB := Lib.hid hb1
    clear hb1
    go_wp2_with fail
    refine (HC.out _).mono ?_
    rintro e w2 ⟨rfl, hb2⟩
    have hb3 : Below w.heap.size w w2 := HB.out.trans (hb2.mono HB.out.size)
    clear hb2
    go_wp2
    go_ret
    exact ⟨rfl, hb3⟩
set_option maxHeartbeats 4000000 in
set_option maxRecDepth 100000 in
theorem vfield_any (f : Fld) (w : World) (h1 : strOk f.name) (h2 : strOk f.kind) :
    Calls Tryz.prog 101 #[fldV f] w (Said f.ok w) := by
  have HN : Hid (∀ w, Calls Tryz.prog 173 #[.string (S f.name)] w (Said (memB f.name) w)) := Lib.hid (fun w => member_any f.name w h1)
  have HC : Hid (∀ w, Calls Tryz.prog 174 #[.string (S f.kind)] w (Said (rightB f.kind) w)) := Lib.hid (fun w => right_any f.kind w h2)
  unfold Fld.ok
  generalize memB f.name = a at HN ⊢
  generalize rightB f.kind = b at HC ⊢
  clear h1 h2
  go_enter Tryz.func101, Tryz.ntmps101
  go_wp2_with fail
  have hbx := Box.new w #[.string (S f.name), .string (S f.kind), .bool f.tr] 62
  have hb0 : Below w.heap.size w (w.alloc (.cells #[.string (S f.name), .string (S f.kind), .bool f.tr] 62)) := (Below.refl _ w).alloc (Nat.le_refl _) _
  refine (HN.out _).mono ?_
  rintro e w1 ⟨rfl, hb1⟩
  have c1 := (hbx.below hb1).cell 1 rfl
  have HB := Lib.hid (hb0.trans (hb1.mono hb0.size))
  clear hbx hb0 hb1
  cases a
  · go_wp2
    go_ret
    exact ⟨rfl, HB.out⟩
  · go_wp2_with fail
    refine (HC.out _).mono ?_
    rintro e w2 ⟨rfl, hb2⟩
    have hb3 : Below w.heap.size w w2 := HB.out.trans (hb2.mono HB.out.size)
    clear hb2 c1
    go_wp2
    go_ret
    exact ⟨rfl, hb3⟩
set_option maxHeartbeats 4000000 in
set_option maxRecDepth 100000 in
theorem vcatch_any (c : Cat) (n : Nat) (w : World) (hs : strOk c.cls) :
    Calls Tryz.prog 238 #[catV c, .int .i64 (n : Nat)] w (Said (Cat.ok n c) w) := by
  have HC : Hid (∀ w, Calls Tryz.prog 162 #[.string (S c.cls)] w (Said (classB c.cls) w)) := Lib.hid (fun w => class_any c.cls w hs)
  unfold Cat.ok
  obtain ⟨fr, tl, at_, cls⟩ := c
  dsimp only at HC ⊢
  generalize classB cls = b at HC ⊢
  clear hs
  by_cases h0 : 0 ≤ fr
  case neg =>
    rw [decide_eq_false h0]
    have dh0 := decide_eq_false h0
    go_enter Tryz.func238, Tryz.ntmps238
    go_wp2
    go_ret
    exact ⟨rfl, (Below.refl _ w).alloc (Nat.le_refl _) _⟩
  rw [decide_eq_true h0, Bool.true_and]
  have dh0 := decide_eq_true h0
  by_cases h1 : fr < tl
  case neg =>
    rw [decide_eq_false h1]
    have dh1 := decide_eq_false h1
    go_enter Tryz.func238, Tryz.ntmps238
    go_wp2
    go_ret
    exact ⟨rfl, (Below.refl _ w).alloc (Nat.le_refl _) _⟩
  rw [decide_eq_true h1, Bool.true_and]
  have dh1 := decide_eq_true h1
  by_cases h2 : tl ≤ (n : Int)
  case neg =>
    rw [decide_eq_false h2]
    have dh2 := decide_eq_false h2
    go_enter Tryz.func238, Tryz.ntmps238
    go_wp2
    go_ret
    exact ⟨rfl, (Below.refl _ w).alloc (Nat.le_refl _) _⟩
  rw [decide_eq_true h2, Bool.true_and]
  have dh2 := decide_eq_true h2
  by_cases h3 : 0 ≤ at_
  case neg =>
    rw [decide_eq_false h3]
    have dh3 := decide_eq_false h3
    go_enter Tryz.func238, Tryz.ntmps238
    go_wp2
    go_ret
    exact ⟨rfl, (Below.refl _ w).alloc (Nat.le_refl _) _⟩
  rw [decide_eq_true h3, Bool.true_and]
  have dh3 := decide_eq_true h3
  by_cases h4 : at_ < (n : Int)
  case neg =>
    rw [decide_eq_false h4]
    have dh4 := decide_eq_false h4
    go_enter Tryz.func238, Tryz.ntmps238
    go_wp2
    go_ret
    exact ⟨rfl, (Below.refl _ w).alloc (Nat.le_refl _) _⟩
  rw [decide_eq_true h4, Bool.true_and]
  have dh4 := decide_eq_true h4
  go_enter Tryz.func238, Tryz.ntmps238
  go_wp2_with fail
  have hb0 : Below w.heap.size w (w.alloc (.cells #[.int .i64 fr, .int .i64 tl, .int .i64 at_, .string (S cls)] 141)) := (Below.refl _ w).alloc (Nat.le_refl _) _
  refine (HC.out _).mono ?_
  rintro e w1 ⟨rfl, hb1⟩
  have HB := Lib.hid (hb0.trans (hb1.mono hb0.size))
  clear hb0 hb1
  go_wp2
  go_ret
  exact ⟨rfl, HB.out⟩
set_option maxHeartbeats 4000000 in
set_option maxRecDepth 100000 in
theorem vbody1_any (c : Cat) (B : Nat) (co : Option Addr) (n cc : Nat) (w : World) (hs : strOk c.cls) (hc : w.cell? ⟨B, 5, none⟩ = some (.slice co n cc)) :
    Calls Tryz.prog 237 #[catV c, .pointer (some ⟨B, 0, none⟩)] w (Said (Cat.ok n c) w) := by
  have HV : Hid (∀ w, Calls Tryz.prog 238 #[catV c, .int .i64 (n : Nat)] w (Said (Cat.ok n c) w)) := Lib.hid (fun w => vcatch_any c n w hs)
  generalize Cat.ok n c = b at HV ⊢
  have hlt : B < w.heap.size := World.block_lt_of_cell? w _ hc
  have hcA : ∀ o : Obj, (w.alloc o).cell? ⟨B, 5, none⟩ = some (.slice co n cc) := fun o => ((Only.refl (fun _ => False) w).alloc o).cell hc id
  clear hc
  go_enter Tryz.func237, Tryz.ntmps237
  go_wp2_with fail
  refine (HV.out _).mono ?_
  rintro e w1 ⟨rfl, hb⟩
  clear hcA
  go_wp2
  go_ret
  exact ⟨rfl, ((Below.refl _ w).alloc (Nat.le_refl _) _).trans (hb.mono (by simp))⟩
set_option maxHeartbeats 4000000 in
set_option maxRecDepth 100000 in
theorem vinstr_any (x : Ins) (w : World) (hT : CT w) (hs : strOk x.s) :
    Calls Tryz.prog 235 #[insVal x] w (Said x.fine w) := by
  have HT := Lib.hid hT
  clear hT
  go_enter Tryz.func235, Tryz.ntmps235
  go_wp2_with fail
  have hb0 : Below w.heap.size w (w.alloc (.cells #[.string (S x.op), .int .i64 x.n, .string (S x.s)] 70)) := (Below.refl _ w).alloc (Nat.le_refl _) _
  refine (check_any x.op x.n x.s _ (HT.out.keep hb0) hs).mono ?_
  rintro e w1 ⟨rfl, hb1⟩
  have HB := Lib.hid (hb0.trans (hb1.mono hb0.size))
  clear hb0 hb1
  go_wp2
  go_ret
  refine ⟨?_, HB.out⟩
  refine congrArg (fun q => Ending.returned (.bool q)) ?_
  unfold Ins.fine Ins.e
  rw [Bool.eq_iff_iff, beq_iff_eq, beq_iff_eq]
  omega
set_option maxHeartbeats 4000000 in
set_option maxRecDepth 100000 in
theorem manym_any {A : Nat → Prop} (m : Mth) (v : Value) (w : World) (hv : MthR A w m v) :
    Calls Tryz.prog 160 #[v] w (Said m.many w) := by
  obtain ⟨_, _, _, rfl, ⟨po, pc, rfl⟩, ⟨co, cc, rfl⟩, ⟨ko, kc, rfl⟩⟩ := mth_shape hv
  clear hv
  unfold Mth.many
  generalize m.params.length = n1
  generalize m.cats.length = n3
  generalize m.code.length = n2
  obtain ⟨name, params, res, abs, loc, code, cats⟩ := m
  dsimp only
  by_cases h1 : 32 < n1
  case pos =>
    rw [decide_eq_true h1]
    have ih1 : 32 < (n1 : Int) := by omega
    go_enter Tryz.func160, Tryz.ntmps160
    go_wp2
    go_ret
    exact ⟨rfl, (Below.refl _ w).alloc (Nat.le_refl _) _⟩
  rw [decide_eq_false h1, Bool.false_or]
  have ih1 : ¬ (32 < (n1 : Int)) := by omega
  by_cases h2 : 32 < n3
  case pos =>
    rw [decide_eq_true h2]
    have ih2 : 32 < (n3 : Int) := by omega
    go_enter Tryz.func160, Tryz.ntmps160
    go_wp2
    go_ret
    exact ⟨rfl, (Below.refl _ w).alloc (Nat.le_refl _) _⟩
  rw [decide_eq_false h2, Bool.false_or]
  have ih2 : ¬ (32 < (n3 : Int)) := by omega
  by_cases h3 : 200 < n2
  case pos =>
    rw [decide_eq_true h3]
    have ih3 : 200 < (n2 : Int) := by omega
    go_enter Tryz.func160, Tryz.ntmps160
    go_wp2
    go_ret
    exact ⟨rfl, (Below.refl _ w).alloc (Nat.le_refl _) _⟩
  rw [decide_eq_false h3, Bool.false_or]
  have ih3 : ¬ (200 < (n2 : Int)) := by omega
  go_enter Tryz.func160, Tryz.ntmps160
  go_wp2
  go_ret
  exact ⟨rfl, (Below.refl _ w).alloc (Nat.le_refl _) _⟩
set_option maxHeartbeats 4000000 in
set_option maxRecDepth 100000 in
theorem isabs_any {A : Nat → Prop} (x : Mth) (v : Value) (w : World) (hv : MthR A w x v) :
    Calls Tryz.prog 171 #[v] w (Said x.abs w) := by
  obtain ⟨_, _, _, rfl, ⟨po, pc, rfl⟩, ⟨co, cc, rfl⟩, ⟨ko, kc, rfl⟩⟩ := mth_shape hv
  clear hv
  go_enter Tryz.func171, Tryz.ntmps171
  go_wp2
  go_ret
  exact ⟨rfl, (Below.refl _ w).alloc (Nat.le_refl _) _⟩
set_option maxHeartbeats 4000000 in
set_option maxRecDepth 100000 in
theorem nm1_any {A : Nat → Prop} (x : List UInt8) (v : Value) (w : World) (hv : StrR A w x v) :
    Calls Tryz.prog 166 #[v] w (SaidS x w) := by
  obtain rfl := hv
  go_enter Tryz.func166, Tryz.ntmps166
  go_wp2
  go_ret
  exact ⟨rfl, Below.refl _ w⟩
set_option maxHeartbeats 4000000 in
set_option maxRecDepth 100000 in
theorem nm2_any {A : Nat → Prop} (x : Fld) (v : Value) (w : World) (hv : FldR A w x v) :
    Calls Tryz.prog 168 #[v] w (SaidS x.name w) := by
  obtain rfl := hv
  go_enter Tryz.func168, Tryz.ntmps168
  go_wp2
  go_ret
  exact ⟨rfl, (Below.refl _ w).alloc (Nat.le_refl _) _⟩
set_option maxHeartbeats 4000000 in
set_option maxRecDepth 100000 in
theorem nm3_any {A : Nat → Prop} (x : Mth) (v : Value) (w : World) (hv : MthR A w x v) :
    Calls Tryz.prog 170 #[v] w (SaidS x.name w) := by
  obtain ⟨_, _, _, rfl, ⟨po, pc, rfl⟩, ⟨co, cc, rfl⟩, ⟨ko, kc, rfl⟩⟩ := mth_shape hv
  clear hv
  go_enter Tryz.func170, Tryz.ntmps170
  go_wp2
  go_ret
  exact ⟨rfl, (Below.refl _ w).alloc (Nat.le_refl _) _⟩
end Go.Proofs.YtpincofjopmaaaaGreatDoor
namespace Go.Proofs.YtpincofjopmaaaaGreatDoor
open Go.RowKit
theorem below_step {w V W : World} (h : Below w.heap.size w V) (b : Below V.heap.size V W) : Below w.heap.size w W := h.trans (b.mono h.size)
theorem below_alloc {w V : World} (h : Below w.heap.size w V) (o : Obj) : Below w.heap.size w (V.alloc o) := h.alloc h.size o
theorem below_drew {w V : World} (h : Below w.heap.size w V) : Below w.heap.size w V.drew := ⟨h.os, h.tape, h.output, h.size, h.block⟩
theorem src_step {V W : World} {v : Value} {l : List UInt8} (h : Src 1 ByteR Anyw V v l) (b : Below V.heap.size V W) : Src 1 ByteR Anyw W v l := ByteR.st.below h b
theorem src_alloc {V : World} {v : Value} {l : List UInt8} (h : Src 1 ByteR Anyw V v l) (o : Obj) : Src 1 ByteR Anyw (V.alloc o) v l := ByteR.st.below h ((Below.refl _ _).alloc (Nat.le_refl _) o)
theorem cell_step {V W : World} {a : Addr} {u : Value} (h : V.cell? a = some u) (b : Below V.heap.size V W) : W.cell? a = some u := (Only.ofBelow (S := fun _ => False) b).cell h id
theorem cell_alloc {V : World} {a : Addr} {u : Value} (h : V.cell? a = some u) (o : Obj) : (V.alloc o).cell? a = some u := ((Only.refl (fun _ => False) V).alloc o).cell h id
theorem src_drew {V : World} {v : Value} {l : List UInt8} (h : Src 1 ByteR Anyw V v l) : Src 1 ByteR Anyw V.drew v l := ByteR.st.below h ((Below.refl _ V).drew)
theorem cell_drew {V : World} {a : Addr} {u : Value} (h : V.cell? a = some u) : V.drew.cell? a = some u := h
theorem cell_new {V : World} {cs : Array Value} {t : TypeId} {X j : Nat} {u : Value} (hX : X = V.heap.size) (hj : cs[j]? = some u) : (V.alloc (.cells cs t)).cell? ⟨X, j, none⟩ = some u := by rw [hX]; exact (Box.new V cs t).cell j hj
/-- Slices of bytes in one row. -/
theorem src_slices {W : World} {X : Nat} (ls : List (List UInt8)) (vs : List Value) (hlen : vs.length = ls.length) (hv : ∀ (k : Nat) v l, vs[k]? = some v → ls[k]? = some l → Src 1 ByteR Anyw W v l) (hc : ∀ (k : Nat) v, vs[k]? = some v → W.cell? ⟨X, k, none⟩ = some v) (hX : X < W.heap.size) (hb : ls.length ≤ 9223372036854775807) :
    Src 1 (SlR 1 ByteR) Anyw W (.slice (some ⟨X, 0, none⟩) ls.length ls.length) ls := by
  refine .inr ⟨X, 0, ls.length, rfl, ⟨trivial, hX, Nat.le_refl _, hb⟩, fun k l hl => ?_⟩
  have hk : k < vs.length := by
    rcases Nat.lt_or_ge k ls.length with h | h
    · omega
    · rw [List.getElem?_eq_none h] at hl; cases hl
  have hvk : vs[k]? = some vs[k] := List.getElem?_eq_getElem hk
  have hs := hv k _ l hvk hl
  obtain ⟨ao, cp, he⟩ := hs.shape
  refine ⟨vs[k], hs, by rw [he]; rfl, fun j u hj => ?_⟩
  have hj0 := cells_lt (n := 1) (by rw [he]; rfl) hj
  obtain rfl : j = 0 := by omega
  obtain rfl : vs[k] = u := by rw [he] at hj ⊢; simpa [Value.cells] using hj
  rw [Nat.mul_one, Nat.zero_add, Nat.add_zero]
  exact hc k _ hvk
theorem bytes_of_join {ls : List (List UInt8)} {w : World} {e : Ending} {w' : World} (h : Joined 5 (ls.flatten.map byteV) w e w') : Bytes' w ls.flatten e w' := by
  obtain ⟨v, he, h1, h2, h3⟩ := h
  refine ⟨v, he, ⟨?_, h2, h3⟩⟩
  rw [List.length_map] at h1
  exact h1
/-- What is said of a call that makes bytes: a slice that reads so. -/
def Mk (l : List UInt8) (w : World) (e : Ending) (w' : World) : Prop := ∃ ao m c, e = .returned (.slice ao m c) ∧ Src 1 ByteR Anyw w' (.slice ao m c) l ∧ Below w.heap.size w w'
theorem mk_of_bytes {l : List UInt8} {w : World} {e : Ending} {w' : World} (h : Bytes' w l e w') : Mk l w e w' := by
  obtain ⟨v, he, s⟩ := h
  obtain ⟨ao, m, c, rfl⟩ := row_shape s.row
  exact ⟨ao, m, c, he, src_of_row s.row, s.bel⟩
/-- The same, with the row. -/
def MkB (l : List UInt8) (w : World) (e : Ending) (w' : World) : Prop := ∃ ao m c, e = .returned (.slice ao m c) ∧ BS w w' (.slice ao m c) l
theorem mkb_of_bytes {l : List UInt8} {w : World} {e : Ending} {w' : World} (h : Bytes' w l e w') : MkB l w e w' := by
  obtain ⟨v, he, s⟩ := h
  obtain ⟨ao, m, c, rfl⟩ := row_shape s.row
  exact ⟨ao, m, c, he, s⟩
theorem cat2_any {V : World} {l0 l1 : List UInt8} {v0 v1 : Value} (s0 : Src 1 ByteR Anyw V v0 l0) (s1 : Src 1 ByteR Anyw V v1 l1) (hlim : l0.length + l1.length ≤ 140737488355328) :
    Calls Tryz.prog 140 #[.slice (some ⟨V.heap.size, 0, none⟩) 2 2] (V.alloc (.cells #[v0, v1] 71)) (MkB (l0 ++ l1) V) := by
  have hbx := Box.new V #[v0, v1] 71
  have hb0 : Below V.heap.size V (V.alloc (.cells #[v0, v1] 71)) := (Below.refl _ V).alloc (Nat.le_refl _) _
  have hs := src_slices (W := V.alloc (.cells #[v0, v1] 71)) (X := V.heap.size) [l0, l1] [v0, v1] rfl (fun k v l h1 h2 => by
    match k, h1, h2 with
    | 0, h1, h2 => cases h1; cases h2; exact src_alloc s0 _
    | 1, h1, h2 => cases h1; cases h2; exact src_alloc s1 _
    | k + 2, h1, h2 => simp at h1) (fun k v h1 => hbx.cell k (by rw [← h1]; simp)) hbx.lt (by simp)
  have hj := concat_byte [l0, l1] _ _ hs (by simp; omega) (by simp)
  have e : [l0, l1].flatten = l0 ++ l1 := by simp
  rw [← e]
  refine hj.mono fun _ _ h => ?_
  obtain ⟨ao, m, c, he, s⟩ := mkb_of_bytes (bytes_of_join h)
  exact ⟨ao, m, c, he, s.le hb0⟩
theorem cat4_any {V : World} {l0 l1 l2 l3 : List UInt8} {v0 v1 v2 v3 : Value} (s0 : Src 1 ByteR Anyw V v0 l0) (s1 : Src 1 ByteR Anyw V v1 l1) (s2 : Src 1 ByteR Anyw V v2 l2) (s3 : Src 1 ByteR Anyw V v3 l3) (hlim : l0.length + l1.length + l2.length + l3.length ≤ 140737488355328) :
    Calls Tryz.prog 140 #[.slice (some ⟨V.heap.size, 0, none⟩) 4 4] (V.alloc (.cells #[v0, v1, v2, v3] 71)) (MkB (l0 ++ (l1 ++ (l2 ++ l3))) V) := by
  have hbx := Box.new V #[v0, v1, v2, v3] 71
  have hb0 : Below V.heap.size V (V.alloc (.cells #[v0, v1, v2, v3] 71)) := (Below.refl _ V).alloc (Nat.le_refl _) _
  have hs := src_slices (W := V.alloc (.cells #[v0, v1, v2, v3] 71)) (X := V.heap.size) [l0, l1, l2, l3] [v0, v1, v2, v3] rfl (fun k v l h1 h2 => by
    match k, h1, h2 with
    | 0, h1, h2 => cases h1; cases h2; exact src_alloc s0 _
    | 1, h1, h2 => cases h1; cases h2; exact src_alloc s1 _
    | 2, h1, h2 => cases h1; cases h2; exact src_alloc s2 _
    | 3, h1, h2 => cases h1; cases h2; exact src_alloc s3 _
    | k + 4, h1, h2 => simp at h1) (fun k v h1 => hbx.cell k (by rw [← h1]; simp)) hbx.lt (by simp)
  have hj := concat_byte [l0, l1, l2, l3] _ _ hs (by simp; omega) (by simp)
  have e : [l0, l1, l2, l3].flatten = l0 ++ (l1 ++ (l2 ++ l3)) := by simp
  rw [← e]
  refine hj.mono fun _ _ h => ?_
  obtain ⟨ao, m, c, he, s⟩ := mkb_of_bytes (bytes_of_join h)
  exact ⟨ao, m, c, he, s.le hb0⟩
theorem cat5_any {V : World} {l0 l1 l2 l3 l4 : List UInt8} {v0 v1 v2 v3 v4 : Value} (s0 : Src 1 ByteR Anyw V v0 l0) (s1 : Src 1 ByteR Anyw V v1 l1) (s2 : Src 1 ByteR Anyw V v2 l2) (s3 : Src 1 ByteR Anyw V v3 l3) (s4 : Src 1 ByteR Anyw V v4 l4) (hlim : l0.length + l1.length + l2.length + l3.length + l4.length ≤ 140737488355328) :
    Calls Tryz.prog 140 #[.slice (some ⟨V.heap.size, 0, none⟩) 5 5] (V.alloc (.cells #[v0, v1, v2, v3, v4] 71)) (MkB (l0 ++ (l1 ++ (l2 ++ (l3 ++ l4)))) V) := by
  have hbx := Box.new V #[v0, v1, v2, v3, v4] 71
  have hb0 : Below V.heap.size V (V.alloc (.cells #[v0, v1, v2, v3, v4] 71)) := (Below.refl _ V).alloc (Nat.le_refl _) _
  have hs := src_slices (W := V.alloc (.cells #[v0, v1, v2, v3, v4] 71)) (X := V.heap.size) [l0, l1, l2, l3, l4] [v0, v1, v2, v3, v4] rfl (fun k v l h1 h2 => by
    match k, h1, h2 with
    | 0, h1, h2 => cases h1; cases h2; exact src_alloc s0 _
    | 1, h1, h2 => cases h1; cases h2; exact src_alloc s1 _
    | 2, h1, h2 => cases h1; cases h2; exact src_alloc s2 _
    | 3, h1, h2 => cases h1; cases h2; exact src_alloc s3 _
    | 4, h1, h2 => cases h1; cases h2; exact src_alloc s4 _
    | k + 5, h1, h2 => simp at h1) (fun k v h1 => hbx.cell k (by rw [← h1]; simp)) hbx.lt (by simp)
  have hj := concat_byte [l0, l1, l2, l3, l4] _ _ hs (by simp; omega) (by simp)
  have e : [l0, l1, l2, l3, l4].flatten = l0 ++ (l1 ++ (l2 ++ (l3 ++ l4))) := by simp
  rw [← e]
  refine hj.mono fun _ _ h => ?_
  obtain ⟨ao, m, c, he, s⟩ := mkb_of_bytes (bytes_of_join h)
  exact ⟨ao, m, c, he, s.le hb0⟩
attribute [local go_sem ↓] Go.wp_at_zero Go.wp_at_succ
set_option maxHeartbeats 4000000 in
set_option maxRecDepth 100000 in
theorem putfield_any (f : Fld) (w : World) (hok : f.ok = true) :
    Calls Tryz.prog 146 #[fldV f] w (Bytes' w f.bytes) := by
  have hlen := fld_le hok
  have hn : f.name.length ≤ 32 := by unfold Fld.ok at hok; rw [Bool.and_eq_true] at hok; exact memB_len hok.1
  have hk : f.kind.length ≤ 38 := by unfold Fld.ok at hok; rw [Bool.and_eq_true] at hok; exact right_len hok.2
  have hb1 := text_le f.name 32 hn (by decide)
  have hb2 := text_le f.kind 38 hk (by decide)
  have HTX : Hid (∀ X W, W.cell? ⟨X, 0, none⟩ = some (.string (S f.name)) → W.cell? ⟨X, 1, none⟩ = some (.string (S f.kind)) → Calls Tryz.prog 141 #[.slice (some ⟨X, 0, none⟩) 2 2] W (Mk (textBytes f.name ++ textBytes f.kind) W)) := Lib.hid (fun X W h0 h1 =>
    (ctexts_any [f.name, f.kind] X 0 2 W (World.block_lt_of_cell? W _ h0) (fun j hj => by
      match j, hj with
      | 0, _ => simpa using h0
      | 1, _ => simpa using h1
      | j + 2, hj => exact absurd hj (by simp)) (by simp [textsMost]; omega) (by simp [texts]; omega)).mono fun _ _ h => by
        have q := mk_of_bytes h
        rw [show texts [f.name, f.kind] = textBytes f.name ++ textBytes f.kind from by simp [texts]] at q
        exact q)
  have HFL : Hid (∀ X W, W.cell? ⟨X, 0, none⟩ = some (.bool f.tr) → Calls Tryz.prog 144 #[.slice (some ⟨X, 0, none⟩) 1 1] W (Mk [flagByte f.tr] W)) := Lib.hid (fun X W h0 =>
    (cflags_any [f.tr] X 0 1 W (World.block_lt_of_cell? W _ h0) (fun j hj => by
      match j, hj with
      | 0, _ => simpa using h0
      | j + 1, hj => exact absurd hj (by simp)) (by simp) (by simp)).mono fun _ _ h => mk_of_bytes h)
  have HCO : Hid (∀ V v0 v1, Src 1 ByteR Anyw V v0 (textBytes f.name ++ textBytes f.kind) → Src 1 ByteR Anyw V v1 ([flagByte f.tr]) → Calls Tryz.prog 140 #[.slice (some ⟨V.heap.size, 0, none⟩) 2 2] (V.alloc (.cells #[v0, v1] 71)) (MkB (f.bytes) V)) := Lib.hid (fun V v0 v1 s0 s1 =>
    cat2_any s0 s1 (by simp; omega))
  have hb0 : Below w.heap.size w (w.alloc (.cells #[.string (S f.name), .string (S f.kind), .bool f.tr] 62)) := (Below.refl _ w).alloc (Nat.le_refl _) _
  have HB0 := Lib.hid hb0
  have HS : Hid (∀ W, Below (w.alloc (.cells #[.string (S f.name), .string (S f.kind), .bool f.tr] 62)).heap.size (w.alloc (.cells #[.string (S f.name), .string (S f.kind), .bool f.tr] 62)) W → W.cell? ⟨w.heap.size, 0, none⟩ = some (.string (S f.name)) ∧ W.cell? ⟨w.heap.size, 1, none⟩ = some (.string (S f.kind)) ∧ W.cell? ⟨w.heap.size, 2, none⟩ = some (.bool f.tr)) := Lib.hid (fun W hW => by
    have hx := (Box.new w #[.string (S f.name), .string (S f.kind), .bool f.tr] 62).below hW
    exact ⟨hx.cell 0 rfl, hx.cell 1 rfl, hx.cell 2 rfl⟩)
  clear hlen hok hb0
  generalize textBytes f.name ++ textBytes f.kind = L0 at *
  generalize f.bytes = LB at *
  obtain ⟨name, kind, tr⟩ := f
  dsimp only at *
  clear hn hk hb1 hb2
  generalize flagByte tr = fb at *
  go_enter Tryz.func146, Tryz.ntmps146
  go_upto_region 1 with fail
  generalize w.alloc (.cells #[.string (S name), .string (S kind), .bool tr] 62) = W0 at HS HB0 ⊢
  generalize w.heap.size = B at HS ⊢
  obtain ⟨g0, g1, g2⟩ := HS.out _ (Below.refl _ W0)
  first
  | (go_region_held (fun W => W.cell? ⟨B, 0, none⟩ = some (.string (S name)) ∧ W.cell? ⟨B, 1, none⟩ = some (.string (S kind)) ∧ W.cell? ⟨B, 2, none⟩ = some (.bool tr)) ((refine HS.out _ ?_; (repeat (first | (with_reducible exact Below.refl _ _) | (with_reducible (apply below_step; rotate_left; assumption)) | (with_reducible refine below_alloc ?_ _) | (with_reducible refine below_drew ?_)))))
      (first
       | (go_at_call 141; refine (HTX.out _ _ ?_ ?_).mono ?_; (focus ((repeat (first | (simp; done) | (with_reducible (apply cell_step; rotate_left; assumption)) | ((with_reducible refine cell_new ?_ ?_); (focus (simp; done)); (focus (simp; done))) | (with_reducible refine cell_drew ?_) | (with_reducible refine cell_alloc ?_ _))); done)); (focus ((repeat (first | (simp; done) | (with_reducible (apply cell_step; rotate_left; assumption)) | ((with_reducible refine cell_new ?_ ?_); (focus (simp; done)); (focus (simp; done))) | (with_reducible refine cell_drew ?_) | (with_reducible refine cell_alloc ?_ _))); done)); rintro e w' ⟨ao, m, c, rfl, s, b⟩)
       | (go_at_call 144; refine (HFL.out _ _ ?_).mono ?_; (focus ((repeat (first | (simp; done) | (with_reducible (apply cell_step; rotate_left; assumption)) | ((with_reducible refine cell_new ?_ ?_); (focus (simp; done)); (focus (simp; done))) | (with_reducible refine cell_drew ?_) | (with_reducible refine cell_alloc ?_ _))); done)); rintro e w' ⟨ao, m, c, rfl, s, b⟩)
       | (go_at_call 140; refine (HCO.out _ _ _ ?_ ?_).mono ?_; (focus ((repeat (first | (with_reducible assumption) | (with_reducible (apply src_step; rotate_left; assumption)) | (with_reducible refine src_alloc ?_ _) | (with_reducible refine src_drew ?_))); done)); (focus ((repeat (first | (with_reducible assumption) | (with_reducible (apply src_step; rotate_left; assumption)) | (with_reducible refine src_alloc ?_ _) | (with_reducible refine src_drew ?_))); done)); rintro e w' ⟨ao, m, c, rfl, s⟩; have b := s.bel)))
  | fail
  all_goals
    go_wp2
    go_ret
    exact ⟨_, rfl, s.le (by (repeat (first | (with_reducible exact HB0.out) | (with_reducible (apply below_step; rotate_left; assumption)) | (with_reducible refine below_alloc ?_ _) | (with_reducible refine below_drew ?_))))⟩
set_option maxHeartbeats 4000000 in
set_option maxRecDepth 100000 in
theorem putcatch_any (x : Cat) (n : Nat) (w : World) (hok : Cat.ok n x = true) (hn : n ≤ 200) :
    Calls Tryz.prog 213 #[catV x] w (Bytes' w x.bytes) := by
  obtain ⟨k1, k2, k3, k4⟩ := cat_nums hok hn
  have hk := classB_len k4
  have hb1 := text_le x.cls 32 hk (by decide)
  have u1 := uv200 k1.2
  have u2 := uv200 k2.2
  have u3 := uv200 k3.2
  have HNM : Hid (∀ X W, W.cell? ⟨X, 0, none⟩ = some (.int .i64 x.fr) → W.cell? ⟨X, 1, none⟩ = some (.int .i64 x.till) → W.cell? ⟨X, 2, none⟩ = some (.int .i64 x.at_) → Calls Tryz.prog 208 #[.slice (some ⟨X, 0, none⟩) 3 3] W (Mk (Lib.uvarint x.fr.toNat ++ (Lib.uvarint x.till.toNat ++ Lib.uvarint x.at_.toNat)) W)) := Lib.hid (fun X W h0 h1 h2 =>
    (cnums_any [x.fr.toNat, x.till.toNat, x.at_.toNat] X 0 3 W (fun j x hx => by
      match j, hx with
      | 0, hx => cases hx; rw [Int.toNat_of_nonneg (by omega)]; simpa using h0
      | 1, hx => cases hx; rw [Int.toNat_of_nonneg (by omega)]; simpa using h1
      | 2, hx => cases hx; rw [Int.toNat_of_nonneg (by omega)]; simpa using h2
      | j + 3, hx => simp at hx) (fun x hx => by simp at hx; omega) (by simp)).mono fun _ _ h => by
        have q := mk_of_bytes h
        rw [show nums [x.fr.toNat, x.till.toNat, x.at_.toNat] = Lib.uvarint x.fr.toNat ++ (Lib.uvarint x.till.toNat ++ Lib.uvarint x.at_.toNat) from by simp [nums]] at q
        exact q)
  have HTX : Hid (∀ X W, W.cell? ⟨X, 0, none⟩ = some (.string (S x.cls)) → Calls Tryz.prog 141 #[.slice (some ⟨X, 0, none⟩) 1 1] W (Mk (textBytes x.cls) W)) := Lib.hid (fun X W h0 =>
    (ctexts_any [x.cls] X 0 1 W (World.block_lt_of_cell? W _ h0) (fun j hj => by
      match j, hj with
      | 0, _ => simpa using h0
      | j + 1, hj => exact absurd hj (by simp)) (by simp [textsMost]; omega) (by simp [texts]; omega)).mono fun _ _ h => by
        have q := mk_of_bytes h
        rw [show texts [x.cls] = textBytes x.cls from by simp [texts]] at q
        exact q)
  have HCO : Hid (∀ V v0 v1, Src 1 ByteR Anyw V v0 (Lib.uvarint x.fr.toNat ++ (Lib.uvarint x.till.toNat ++ Lib.uvarint x.at_.toNat)) → Src 1 ByteR Anyw V v1 (textBytes x.cls) → Calls Tryz.prog 140 #[.slice (some ⟨V.heap.size, 0, none⟩) 2 2] (V.alloc (.cells #[v0, v1] 71)) (MkB (x.bytes) V)) := Lib.hid (fun V v0 v1 s0 s1 =>
    cat2_any s0 s1 (by simp; omega))
  have hb0 : Below w.heap.size w (w.alloc (.cells #[.int .i64 x.fr, .int .i64 x.till, .int .i64 x.at_, .string (S x.cls)] 141)) := (Below.refl _ w).alloc (Nat.le_refl _) _
  have HB0 := Lib.hid hb0
  have HS : Hid (∀ W, Below (w.alloc (.cells #[.int .i64 x.fr, .int .i64 x.till, .int .i64 x.at_, .string (S x.cls)] 141)).heap.size (w.alloc (.cells #[.int .i64 x.fr, .int .i64 x.till, .int .i64 x.at_, .string (S x.cls)] 141)) W → W.cell? ⟨w.heap.size, 0, none⟩ = some (.int .i64 x.fr) ∧ W.cell? ⟨w.heap.size, 1, none⟩ = some (.int .i64 x.till) ∧ W.cell? ⟨w.heap.size, 2, none⟩ = some (.int .i64 x.at_) ∧ W.cell? ⟨w.heap.size, 3, none⟩ = some (.string (S x.cls))) := Lib.hid (fun W hW => by
    have hx := (Box.new w #[.int .i64 x.fr, .int .i64 x.till, .int .i64 x.at_, .string (S x.cls)] 141).below hW
    exact ⟨hx.cell 0 rfl, hx.cell 1 rfl, hx.cell 2 rfl, hx.cell 3 rfl⟩)
  clear k1 k2 k3 k4 hk hb1 u1 u2 u3 hok hn hb0
  generalize Lib.uvarint x.fr.toNat ++ (Lib.uvarint x.till.toNat ++ Lib.uvarint x.at_.toNat) = L0 at *
  generalize textBytes x.cls = L1 at *
  generalize x.bytes = LB at *
  obtain ⟨fr, tl, at_, cls⟩ := x
  dsimp only at *
  go_enter Tryz.func213, Tryz.ntmps213
  go_upto_region 1 with fail
  generalize w.alloc (.cells #[.int .i64 fr, .int .i64 tl, .int .i64 at_, .string (S cls)] 141) = W0 at HS HB0 ⊢
  generalize w.heap.size = B at HS ⊢
  obtain ⟨g0, g1, g2, g3⟩ := HS.out _ (Below.refl _ W0)
  first
  | (go_region_held (fun W => W.cell? ⟨B, 0, none⟩ = some (.int .i64 fr) ∧ W.cell? ⟨B, 1, none⟩ = some (.int .i64 tl) ∧ W.cell? ⟨B, 2, none⟩ = some (.int .i64 at_) ∧ W.cell? ⟨B, 3, none⟩ = some (.string (S cls))) ((refine HS.out _ ?_; (repeat (first | (with_reducible exact Below.refl _ _) | (with_reducible (apply below_step; rotate_left; assumption)) | (with_reducible refine below_alloc ?_ _) | (with_reducible refine below_drew ?_)))))
      (first
       | (go_at_call 208; refine (HNM.out _ _ ?_ ?_ ?_).mono ?_; (focus ((repeat (first | (simp; done) | (with_reducible (apply cell_step; rotate_left; assumption)) | ((with_reducible refine cell_new ?_ ?_); (focus (simp; done)); (focus (simp; done))) | (with_reducible refine cell_drew ?_) | (with_reducible refine cell_alloc ?_ _))); done)); (focus ((repeat (first | (simp; done) | (with_reducible (apply cell_step; rotate_left; assumption)) | ((with_reducible refine cell_new ?_ ?_); (focus (simp; done)); (focus (simp; done))) | (with_reducible refine cell_drew ?_) | (with_reducible refine cell_alloc ?_ _))); done)); (focus ((repeat (first | (simp; done) | (with_reducible (apply cell_step; rotate_left; assumption)) | ((with_reducible refine cell_new ?_ ?_); (focus (simp; done)); (focus (simp; done))) | (with_reducible refine cell_drew ?_) | (with_reducible refine cell_alloc ?_ _))); done)); rintro e w' ⟨ao, m, c, rfl, s, b⟩)
       | (go_at_call 141; refine (HTX.out _ _ ?_).mono ?_; (focus ((repeat (first | (simp; done) | (with_reducible (apply cell_step; rotate_left; assumption)) | ((with_reducible refine cell_new ?_ ?_); (focus (simp; done)); (focus (simp; done))) | (with_reducible refine cell_drew ?_) | (with_reducible refine cell_alloc ?_ _))); done)); rintro e w' ⟨ao, m, c, rfl, s, b⟩)
       | (go_at_call 140; refine (HCO.out _ _ _ ?_ ?_).mono ?_; (focus ((repeat (first | (with_reducible assumption) | (with_reducible (apply src_step; rotate_left; assumption)) | (with_reducible refine src_alloc ?_ _) | (with_reducible refine src_drew ?_))); done)); (focus ((repeat (first | (with_reducible assumption) | (with_reducible (apply src_step; rotate_left; assumption)) | (with_reducible refine src_alloc ?_ _) | (with_reducible refine src_drew ?_))); done)); rintro e w' ⟨ao, m, c, rfl, s⟩; have b := s.bel)))
  | fail
  all_goals
    go_wp2
    go_ret
    exact ⟨_, rfl, s.le (by (repeat (first | (with_reducible exact HB0.out) | (with_reducible (apply below_step; rotate_left; assumption)) | (with_reducible refine below_alloc ?_ _) | (with_reducible refine below_drew ?_))))⟩
end Go.Proofs.YtpincofjopmaaaaGreatDoor
