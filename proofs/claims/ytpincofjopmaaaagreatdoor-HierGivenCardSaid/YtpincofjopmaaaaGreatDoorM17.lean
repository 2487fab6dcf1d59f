/-
  Classes as bytes, and how many bytes they are at most.
  Conditions: none; no program is named here.
  The contracts of slices.Grow (of no slice) and slices.Concat, at slices of texts and of bytes.
  Conditions: the slices lie in memory that was there before; all together they have at most 2^47 bytes.
  The contracts of package class's texts, flags and nums, and of putList at slices of texts, fields, catches, methods and classes, at whatever function it is handed.
  Conditions: the elements lie in memory that was there before; all together they are at most 2^47 bytes.
-/
import Derived.Test.YtpincofjopmaaaaGreatDoorM11
import Derived.Test.YtpincofjopmaaaaGreatDoorM16
import Derived.Test.YtpincofjopmaaaaGreatDoorM02
import Derived.Test.YtpincofjopmaaaaGreatDoorM05
import Derived.Lib.AppendZeros
import Derived.Test.YtpincofjopmaaaaGreatDoorM04
namespace Go.Proofs.YtpincofjopmaaaaGreatDoor
open Go.RowKit
/-- How many, and each. -/
def listB {α : Type} (f : α → List UInt8) (l : List α) : List UInt8 := Lib.uvarint l.length ++ l.flatMap f
def Fld.bytes (f : Fld) : List UInt8 := (textBytes f.name ++ textBytes f.kind) ++ [flagByte f.tr]
def Cat.bytes (c : Cat) : List UInt8 := (Lib.uvarint c.fr.toNat ++ (Lib.uvarint c.till.toNat ++ Lib.uvarint c.at_.toNat)) ++ textBytes c.cls
def Mth.head (m : Mth) : List UInt8 := textBytes m.name ++ (listB textBytes m.params ++ (textBytes m.res ++ [flagByte m.abs]))
def Mth.tail (m : Mth) : List UInt8 := Lib.uvarint m.loc.toNat ++ (putL m.code ++ listB Cat.bytes m.cats)
def Mth.bytes (m : Mth) : List UInt8 := if m.abs then m.head else m.head ++ m.tail
def Cls.bytes (c : Cls) : List UInt8 := (textBytes c.name ++ textBytes c.sup) ++ (listB textBytes c.like ++ ([flagByte c.itf, flagByte c.abs, flagByte c.fin] ++ (listB Fld.bytes c.flds ++ listB Mth.bytes c.mths)))
/-- Numbers of 64 bits. -/
def i64 (n : Int) : Prop := -9223372036854775808 ≤ n ∧ n ≤ 9223372036854775807
/-- What a machine may hold: numbers of 64 bits. -/
def Cat.held (c : Cat) : Prop := i64 c.fr ∧ i64 c.till ∧ i64 c.at_
def Mth.held (m : Mth) : Prop := i64 m.loc ∧ (∀ x ∈ m.code, i64 x.n) ∧ (∀ x ∈ m.cats, x.held)
def Cls.held (c : Cls) : Prop := ∀ m ∈ c.mths, m.held
theorem flat_le {α : Type} (f : α → List UInt8) (B : Nat) : ∀ (l : List α), (∀ x ∈ l, (f x).length ≤ B) → (l.flatMap f).length ≤ B * l.length
  | [], _ => by simp
  | x :: l, h => by
    have ih := flat_le f B l (fun y hy => h y (List.mem_cons_of_mem _ hy))
    have h0 := h x List.mem_cons_self
    rw [List.flatMap_cons, List.length_append, List.length_cons, Nat.mul_succ]
    omega
theorem listB_le {α : Type} (f : α → List UInt8) (B N : Nat) (l : List α) (h : ∀ x ∈ l, (f x).length ≤ B) (hl : l.length ≤ N) (hN : N < 18446744073709551616) : (listB f l).length ≤ 10 + B * N := by
  have h1 := flat_le f B l h
  have h2 : (Lib.uvarint l.length).length ≤ 10 := Lib.uvarint_length64 (by omega)
  have h3 : B * l.length ≤ B * N := Nat.mul_le_mul_left B hl
  unfold listB
  rw [List.length_append]
  omega
theorem text_le (s : List UInt8) (N : Nat) (h : s.length ≤ N) (hN : N < 18446744073709551616) : (textBytes s).length ≤ 10 + N := by
  have h2 : (Lib.uvarint s.length).length ≤ 10 := Lib.uvarint_length64 (by omega)
  unfold textBytes
  rw [List.length_append]
  omega
theorem memB_len {l : List UInt8} (h : memB l = true) : l.length ≤ 32 := by
  unfold memB at h
  rw [Bool.and_eq_true] at h
  exact (nameB_pos h.1).2
theorem memB_valid {l : List UInt8} (h : memB l = true) : Lib.validD l = true := by
  unfold memB at h
  rw [Bool.and_eq_true] at h
  exact plain_valid (name_plain h.1).1
theorem classB_len {l : List UInt8} (h : classB l = true) : l.length ≤ 32 := (nameB_pos (classB_name h)).2
theorem classB_valid {l : List UInt8} (h : classB l = true) : Lib.validD l = true := plain_valid (name_plain (classB_name h)).1
theorem rightB_valid {l : List UInt8} (h : rightB l = true) : Lib.validD l = true := plain_valid (right_plain _ l (Nat.le_refl _) h)
theorem fine_ok {x : Ins} (h : x.fine = true) (hn : i64 x.n) : x.e = 0 ∧ x.ok := by
  have h0 : x.e = 0 := by unfold Ins.fine at h; simpa using h
  have h1 := (allows_text (ins_fine h0).2.2.2).2.1
  exact ⟨h0, hn, by omega⟩
theorem allE_fine : ∀ (l : List Ins), (∀ x ∈ l, x.fine = true) → allE l = 0
  | [], _ => rfl
  | x :: l, h => by
    have h0 : x.e = 0 := by have := h x List.mem_cons_self; unfold Ins.fine at this; simpa using this
    unfold allE
    rw [if_pos h0]
    exact allE_fine l (fun y hy => h y (List.mem_cons_of_mem _ hy))
/-- What is known of a method that may be. -/
structure Mth.Good (m : Mth) : Prop where
  ok : m.ok = true
  few : m.many = false
  held : m.held
theorem Mth.Good.name {m : Mth} (h : m.Good) : memB m.name = true := by have := h.ok; unfold Mth.ok at this; simp only [Bool.and_eq_true] at this; exact this.1
theorem Mth.Good.params {m : Mth} (h : m.Good) : ∀ x ∈ m.params, rightB x = true := by have := h.ok; unfold Mth.ok at this; simp only [Bool.and_eq_true, List.all_eq_true] at this; exact this.2.1
theorem Mth.Good.res {m : Mth} (h : m.Good) : m.res = [] ∨ rightB m.res = true := by have := h.ok; unfold Mth.ok at this; simp only [Bool.and_eq_true, Bool.or_eq_true, decide_eq_true_eq] at this; exact this.2.2.1
theorem Mth.Good.body {m : Mth} (h : m.Good) : m.body = true := by have := h.ok; unfold Mth.ok at this; simp only [Bool.and_eq_true] at this; exact this.2.2.2
theorem Mth.Good.nums {m : Mth} (h : m.Good) : m.params.length ≤ 32 ∧ m.cats.length ≤ 32 ∧ m.code.length ≤ 200 ∧ m.loc ≤ 64 := by
  have := h.few
  unfold Mth.many at this
  simp only [Bool.or_eq_false_iff, decide_eq_false_iff_not] at this
  omega
theorem Mth.Good.real {m : Mth} (h : m.Good) (ha : m.abs = false) : 0 < m.code.length ∧ (∀ x ∈ m.code, x.fine = true) ∧ (∀ x ∈ m.cats, Cat.ok m.code.length x = true) ∧ (m.params.length : Int) < m.loc := by
  have := h.body
  unfold Mth.body at this
  rw [ha] at this
  simp only [Bool.false_eq_true, if_false, Bool.and_eq_true, List.all_eq_true, decide_eq_true_eq] at this
  exact ⟨this.2.1, this.2.2.1, this.2.2.2, this.1⟩
theorem Mth.Good.code {m : Mth} (h : m.Good) (ha : m.abs = false) : allE m.code = 0 ∧ ∀ x ∈ m.code, x.ok :=
  ⟨allE_fine _ (h.real ha).2.1, fun x hx => (fine_ok ((h.real ha).2.1 x hx) (h.held.2.1 x hx)).2⟩
theorem cat_nums {n : Nat} {c : Cat} (h : Cat.ok n c = true) (hn : n ≤ 200) : (0 ≤ c.fr ∧ c.fr ≤ 200) ∧ (0 ≤ c.till ∧ c.till ≤ 200) ∧ (0 ≤ c.at_ ∧ c.at_ ≤ 200) ∧ classB c.cls = true := by
  unfold Cat.ok at h
  simp only [Bool.and_eq_true, decide_eq_true_eq] at h
  refine ⟨by omega, by omega, by omega, h.2.2.2.2.2⟩
theorem uv200 {z : Int} (h : z ≤ 200) : (Lib.uvarint z.toNat).length ≤ 10 := Lib.uvarint_length64 (by omega)
theorem cat_le {n : Nat} {c : Cat} (h : Cat.ok n c = true) (hn : n ≤ 200) : c.bytes.length ≤ 100 := by
  obtain ⟨h1, h2, h3, h4⟩ := cat_nums h hn
  have a := uv200 h1.2
  have b := uv200 h2.2
  have d := uv200 h3.2
  have e := text_le c.cls 32 (classB_len h4) (by decide)
  unfold Cat.bytes
  simp only [List.length_append]
  omega
theorem Mth.Good.res_len {m : Mth} (h : m.Good) : m.res.length ≤ 38 := by
  rcases h.res with e | e
  · rw [e]; simp
  · exact right_len e
theorem Mth.Good.res_valid {m : Mth} (h : m.Good) : Lib.validD m.res = true := by
  rcases h.res with e | e
  · rw [e]; exact Lib.validD_nil
  · exact rightB_valid e
theorem Mth.Good.head_le {m : Mth} (h : m.Good) : m.head.length ≤ 2000 := by
  have a := text_le m.name 32 (memB_len h.name) (by decide)
  have b := listB_le textBytes 48 32 m.params (fun x hx => text_le x 38 (right_len (h.params x hx)) (by decide)) h.nums.1 (by decide)
  have c := text_le m.res 38 h.res_len (by decide)
  unfold Mth.head
  simp only [List.length_append, List.length_cons, List.length_nil]
  omega
theorem putL_le {l : List Ins} (h : ∀ x ∈ l, x.ok) (hl : l.length ≤ 200) : (putL l).length ≤ 209720010 := by
  have h1 := insBytes_le l h
  have h2 : (Lib.uvarint l.length).length ≤ 10 := Lib.uvarint_length64 (by omega)
  unfold putL
  rw [List.length_append]
  omega
theorem Mth.Good.tail_le {m : Mth} (h : m.Good) (ha : m.abs = false) : m.tail.length ≤ 209730000 := by
  have a : (Lib.uvarint m.loc.toNat).length ≤ 10 := Lib.uvarint_length64 (by have := h.nums.2.2.2; omega)
  have b := putL_le (h.code ha).2 h.nums.2.2.1
  have c := listB_le Cat.bytes 100 32 m.cats (fun x hx => cat_le ((h.real ha).2.2.1 x hx) h.nums.2.2.1) h.nums.2.1 (by decide)
  unfold Mth.tail
  simp only [List.length_append]
  omega
theorem Mth.Good.le {m : Mth} (h : m.Good) : m.bytes.length ≤ 209740000 := by
  have a := h.head_le
  unfold Mth.bytes
  cases ha : m.abs
  · have b := h.tail_le ha
    simp only [Bool.false_eq_true, if_false, List.length_append]
    omega
  · simp only [if_true]
    omega
theorem fld_le {f : Fld} (h : f.ok = true) : f.bytes.length ≤ 100 := by
  unfold Fld.ok at h
  rw [Bool.and_eq_true] at h
  have a := text_le f.name 32 (memB_len h.1) (by decide)
  have b := text_le f.kind 38 (right_len h.2) (by decide)
  unfold Fld.bytes
  simp only [List.length_append, List.length_cons, List.length_nil]
  omega
/-- What is known of a class that may be. -/
structure Cls.Good (c : Cls) : Prop where
  e : c.e = 0
  held : c.held
theorem Cls.Good.parts {c : Cls} (h : c.Good) : c.many = false ∧ c.fine = true := by
  have := h.e
  unfold Cls.e at this
  cases hm : c.many
  · cases hf : c.fine
    · rw [hm, hf] at this; simp at this
    · exact ⟨rfl, rfl⟩
  · rw [hm] at this; simp at this
theorem Cls.Good.nums {c : Cls} (h : c.Good) : c.like.length ≤ 32 ∧ c.flds.length ≤ 32 ∧ c.mths.length ≤ 32 := by
  have := h.parts.1
  unfold Cls.many at this
  simp only [Bool.or_eq_false_iff, decide_eq_false_iff_not] at this
  omega
theorem Cls.Good.name {c : Cls} (h : c.Good) : classB c.name = true := by
  have := h.parts.2
  unfold Cls.fine Cls.names at this
  simp only [Bool.and_eq_true] at this
  exact this.1.1
theorem Cls.Good.above {c : Cls} (h : c.Good) : classB c.sup = true ∧ ∀ x ∈ c.like, classB x = true := by
  have := h.parts.2
  unfold Cls.fine Cls.names at this
  simp only [Bool.and_eq_true, List.all_cons, List.all_eq_true] at this
  exact this.1.2.1
theorem Cls.Good.flds {c : Cls} (h : c.Good) : ∀ x ∈ c.flds, x.ok = true := by
  have := h.parts.2
  unfold Cls.fine at this
  simp only [Bool.and_eq_true, List.all_eq_true] at this
  exact this.2.2.1
theorem Cls.Good.mths {c : Cls} (h : c.Good) : ∀ x ∈ c.mths, x.Good := by
  have h1 := h.parts.2
  have h2 := h.parts.1
  unfold Cls.fine at h1
  unfold Cls.many at h2
  simp only [Bool.and_eq_true, List.all_eq_true] at h1
  simp only [Bool.or_eq_false_iff, List.any_eq_false] at h2
  intro x hx
  refine ⟨h1.2.2.2 x hx, ?_, h.held x hx⟩
  have := h2.2.2.2 x hx
  simpa using this
theorem Cls.Good.le {c : Cls} (h : c.Good) : c.bytes.length ≤ 6711700000 := by
  have a := text_le c.name 32 (classB_len h.name) (by decide)
  have b := text_le c.sup 32 (classB_len h.above.1) (by decide)
  have d := listB_le textBytes 42 32 c.like (fun x hx => text_le x 32 (classB_len (h.above.2 x hx)) (by decide)) h.nums.1 (by decide)
  have e := listB_le Fld.bytes 100 32 c.flds (fun x hx => fld_le (h.flds x hx)) h.nums.2.1 (by decide)
  have f := listB_le Mth.bytes 209740000 32 c.mths (fun x hx => (h.mths x hx).le) h.nums.2.2 (by decide)
  unfold Cls.bytes
  simp only [List.length_append, List.length_cons, List.length_nil]
  omega
end Go.Proofs.YtpincofjopmaaaaGreatDoor
namespace Go.Proofs.YtpincofjopmaaaaGreatDoor
open Go.RowKit
/-- A slice as an element. -/
def SlR {α : Type} (n : Nat) (R : ElemRel α) : ElemRel (List α) := fun A w l v => Src n R A w v l
theorem SlR.stays {α : Type} {n : Nat} {R : ElemRel α} (hR : Stays R) : Stays (SlR n R) := ⟨fun h ho hA => hR.src h ho hA, fun h hA => hR.srcMono h hA⟩
abbrev byteV (b : UInt8) : Value := .int .u8 b.toNat
abbrev ByteR : ElemRel UInt8 := Flat byteV
theorem ByteR.st : Stays ByteR := Flat.stays _
theorem src_of_row {w : World} {v : Value} {l : List UInt8} (h : RowIs w v l) : Src 1 ByteR Anyw w v l := by
  rcases h.2 with ⟨rfl, h0⟩ | ⟨g, cap, cur, rfl, hb, hgg, hnc, hcm, _⟩
  · exact .inl ⟨_, _, rfl, List.eq_nil_of_length_eq_zero h0⟩
  · refine .inr ⟨g, 0, cap, rfl, ⟨trivial, lt_of_block hgg, hnc, hcm⟩, fun k x hx => ⟨_, rfl, rfl, fun j u hj => ?_⟩⟩
    have hj0 : j = 0 := by
      rcases Nat.eq_zero_or_pos j with h | h
      · exact h
      · rw [Array.getElem?_eq_none (by simp [byteV, Value.cells]; omega)] at hj; cases hj
    subst hj0
    have hu : u = byteV x := by simpa [byteV, Value.cells] using hj.symm
    subst hu
    have hc := h.cells (g := g) rfl k (byteV x) (by rw [byteCells_at, hx]; rfl)
    rw [Addr.add_mid] at hc
    rw [Nat.mul_one, Nat.add_zero]
    exact hc
theorem run_append_empty {P : Program} (w : World) (t ty e : TypeId) (i : TypeInfo) (size : Nat) (ht : P.underlying t = some (.slice e)) (hi : P.info? e = some i)
    (v : Value) (n : Nat) (xs : List Value) (hown : w.ownsRow 0 e size v n xs) (A : Option Addr) (c : Nat) : (Builtin.append_ #[t, t] ty #[v, .slice A 0 c]).run P w = .ok v w := by
  rcases hown.2 with ⟨rfl, rfl⟩ | ⟨g, cap, cur, rfl, _, hg, hnc, _, hcs, htake⟩
  · cases A <;> simp [Builtin.append_, run_underlying ht, sizeOf, typeInfo, hi, Builtin.lenOf, Builtin.firstCells, loadCells, loadCellsFrom]
  · cases A <;> simp [Builtin.append_, run_underlying ht, sizeOf, typeInfo, hi, Builtin.lenOf, Builtin.firstCells, hnc, storeCells, loadCells, loadCellsFrom]
theorem flat_at1 {α : Type} {f : α → Value} (h1 : ∀ x, (f x).cells = #[f x]) {A : Nat → Prop} {w : World} {b o : Nat} {l : List α} (h : ∀ k x, l[k]? = some x → ∃ v, Flat f A w x v ∧ v.cells.size = 1 ∧ ∀ j u, v.cells[j]? = some u → w.cell? ⟨b, o + k * 1 + j, none⟩ = some u) :
    ∀ j u, (l.map f)[j]? = some u → w.cell? ((⟨b, o, none⟩ : Addr).add j) = some u := by
  intro j u hj
  rw [List.getElem?_map] at hj
  cases hx : l[j]? with
  | none => rw [hx] at hj; cases hj
  | some x =>
    rw [hx] at hj
    cases hj
    obtain ⟨v, rfl, _, hc⟩ := h j x hx
    have := hc 0 (f x) (by rw [h1]; rfl)
    rw [Addr.add_mid]
    rw [Nat.mul_one, Nat.add_zero] at this
    exact this
/-- A row of a call's own as a slice. -/
theorem src_of_own {α : Type} {f : α → Value} (h1 : ∀ x, (f x).cells = #[f x]) {t : TypeId} {w : World} {v : Value} {l : List α} (h : w.ownsRow 0 t 1 v (l.map f).length (l.map f)) : Src 1 (Flat f) Anyw w v l := by
  rcases h.2 with ⟨rfl, h0⟩ | ⟨g, cap, cur, rfl, hb, hgg, hnc, hcm, _⟩
  · exact .inl ⟨_, _, rfl, List.eq_nil_of_length_eq_zero (by simpa using h0)⟩
  · refine .inr ⟨g, 0, cap, by rw [List.length_map], ⟨trivial, lt_of_block hgg, by rw [List.length_map] at hnc; exact hnc, hcm⟩, fun k x hx => ⟨_, rfl, by rw [h1]; rfl, fun j u hj => ?_⟩⟩
    rw [h1] at hj
    have hj0 : j = 0 := by
      rcases Nat.eq_zero_or_pos j with h | h
      · exact h
      · rw [Array.getElem?_eq_none (by simp; omega)] at hj; cases hj
    subst hj0
    have hu : u = f x := by simpa using hj.symm
    subst hu
    have hc := h.cells (g := g) rfl k (f x) (by rw [List.getElem?_map, hx]; rfl)
    rw [Addr.add_mid] at hc
    rw [Nat.mul_one, Nat.add_zero]
    exact hc
theorem flatten_succ {α : Type} (ls : List (List α)) (k : Nat) (x : List α) (h : ls[k]? = some x) : (ls.take (k + 1)).flatten = (ls.take k).flatten ++ x := by
  rw [List.take_add_one, h]
  simp
theorem flatten_le {α : Type} (ls : List (List α)) (k : Nat) : (ls.take k).flatten.length ≤ ls.flatten.length := by
  conv => rhs; rw [← List.take_append_drop k ls, List.flatten_append, List.length_append]
  omega
/-- What the first k come to. -/
def preN {α : Type} (ls : List (List α)) (k : Nat) : Nat := (ls.take k).flatten.length
def preV {α : Type} (f : α → Value) (ls : List (List α)) (k : Nat) : List Value := (ls.take k).flatten.map f
/-- What is said of Concat: a row of the call's own. -/
def Joined (t : TypeId) (xs : List Value) (w : World) (e : Ending) (w' : World) : Prop := ∃ v, e = .returned v ∧ w'.ownsRow 0 t 1 v xs.length xs ∧ (∀ g, v.ownBlock = some g → w.heap.size ≤ g) ∧ Below w.heap.size w w'
theorem row_shape_l {w : World} {e : TypeId} {size : Nat} {v : Value} {n : Nat} {xs : List Value} (h : w.ownsRow 0 e size v n xs) : ∃ ao m c, v = .slice ao m c := by
  rcases h.2 with ⟨rfl, _⟩ | ⟨g, cap, cur, rfl, _⟩
  · exact ⟨_, _, _, rfl⟩
  · exact ⟨_, _, _, rfl⟩
theorem info_str : (Tryz.prog.info? 9).map (fun i => (i.zero, i.size, i.bytes)) = some (some (.string ⟨#[]⟩), 1, 16) := by kernel_rfl
set_option maxHeartbeats 2000000 in
set_option maxRecDepth 100000 in
theorem grow_str (n : Nat) (w : World) (hn : n * 16 ≤ 140737488355328) :
    Calls Tryz.prog 225 #[.slice none 0 0, .int .i64 (n : Nat)] w fun e w' => ∃ v, e = .returned v ∧ w'.ownsRow 0 9 1 v 0 [] ∧ (∀ g, v.ownBlock = some g → w.heap.size ≤ g) ∧ Below w.heap.size w w' := by
  obtain ⟨j0, hji, hz0, hz1, hz2⟩ := info_parts info_str
  have hn2 : (n : Int) ≤ 140737488355328 := by omega
  have hn0 : (0 : Int) ≤ (n : Int) := by omega
  by_cases h0 : n = 0
  · subst h0
    go_enter Tryz.func225, Tryz.ntmps225
    go_wp2
    go_ret
    exact ⟨_, rfl, World.ownsRow_nil _ _ _ _, fun g hg => by simp [Value.ownBlock] at hg, Below.refl _ _⟩
  · have hpos : 0 < (n : Int) := by omega
    have HR := Lib.hid (fun ty => Lib.run_append_nil_zeros (P := Tryz.prog) w 22 3 ty 9 j0 (.string ⟨#[]⟩) .i64 .i64 Tryz.underlying22 Tryz.underlying3 hji hz0 n (by omega) (by rw [hz1]; decide) (by omega) (by rw [hz2]; omega))
    have hge := grownCap_ge w n 0 9
    have hcm : grownCap w n 0 9 ≤ maxLen := grownCap_le_maxLen w _ 0 9 (by unfold maxLen; omega)
    have hcz : (Builtin.zeroCells (.string ⟨#[]⟩ : Value).cells n ++ Builtin.zeroCells (.string ⟨#[]⟩ : Value).cells (grownCap w n 0 9 - n)).size = grownCap w n 0 9 := by
      rw [Array.size_append, size_zeroCells, size_zeroCells, show (.string ⟨#[]⟩ : Value).cells.size = 1 from rfl]
      omega
    have HGE := Lib.hid hge
    have HCM := Lib.hid hcm
    have HCZ := Lib.hid hcz
    clear hge hcm hcz hji hz0 hz1 hz2
    generalize grownCap w n 0 9 = gc at *
    generalize (Builtin.zeroCells (.string ⟨#[]⟩ : Value).cells n ++ Builtin.zeroCells (.string ⟨#[]⟩ : Value).cells (gc - n)) = zs at *
    have hgc : (0 : Int) ≤ (gc : Int) := by omega
    go_enter Tryz.func225, Tryz.ntmps225
    go_wp2_with (at_builtin; refine Lib.wpList_append_run _ rfl _ _ 22 3 rfl (.slice none 0 0) (.int .i64 (n : Nat)) rfl rfl _ _ (HR.out _) ?_)
    go_ret
    refine ⟨_, rfl, ⟨rfl, .inr ⟨w.heap.size, gc, zs, rfl, Nat.zero_le _, heap_alloc_new w.drew _, Nat.zero_le _, HCM.out, by rw [HCZ.out, Nat.mul_one], by simp⟩⟩, fun g hg => by simp [Value.ownBlock] at hg; omega, (Below.refl _ w).drew.alloc (Nat.le_refl _) _⟩
set_option maxHeartbeats 2000000 in
set_option maxRecDepth 100000 in
theorem concat_str {A : Nat → Prop} (ls : List (List (List UInt8))) (sv : Value) (w : World) (hs : Src 1 (SlR 1 StrR) A w sv ls) (hlim : ls.flatten.length * 16 ≤ 140737488355328) (hln : ls.length ≤ 1048576) :
    Calls Tryz.prog 161 #[sv] w (Joined 9 (ls.flatten.map strV) w) := by
  obtain ⟨X, hX⟩ : ∃ X, X = ls.flatten.map strV := ⟨_, rfl⟩
  rw [← hX]
  have HX := Lib.hid hX
  clear hX
  obtain ⟨tot, htot⟩ : ∃ tot, tot = ls.flatten.length := ⟨_, rfl⟩
  have HTE := Lib.hid htot
  have HTOT : Hid (tot * 16 ≤ 140737488355328) := Lib.hid (by rw [htot]; exact hlim)
  clear htot
  obtain ⟨j0, hji, hz0, hz1, hz2⟩ := info_parts info_str
  have HSRC := Lib.hid hs
  have HLIM := Lib.hid hlim
  obtain ⟨n, hnn⟩ : ∃ n, n = ls.length := ⟨_, rfl⟩
  obtain ⟨so, sc, rfl⟩ : ∃ so sc, sv = .slice so n sc := by rw [hnn]; exact hs.shape
  rw [← hnn] at hln
  have HN := Lib.hid hnn
  clear hnn
  have HEL : Hid (∀ k : Nat, k < n → ∃ (b o : Nat) (x : List (List UInt8)) (v : Value), so = some ⟨b, o, none⟩ ∧ ls[k]? = some x ∧ Src 1 StrR A w v x ∧ w.cell? ⟨b, o + k, none⟩ = some v) := Lib.hid (fun k hk => by
    rcases hs with ⟨ao, cp0, he, rfl⟩ | ⟨b, o, cap, he, _, hc⟩
    · simp at he
      omega
    · simp at he
      have hkl : k < ls.length := by omega
      obtain ⟨v, hv, hsz, hcl⟩ := hc k _ (List.getElem?_eq_getElem hkl)
      refine ⟨b, o, _, v, he.1, List.getElem?_eq_getElem hkl, hv, ?_⟩
      have := hcl 0 v (by obtain ⟨ao, cp, rfl⟩ := Src.shape hv; rfl)
      rw [Nat.mul_one, Nat.add_zero] at this
      exact this)
  clear hs hlim
  have hz : ls.flatten.length ≤ 140737488355328 := by have := HLIM.out; omega
  have HZ := Lib.hid hz
  clear hz
  go_enter Tryz.func161, Tryz.ntmps161
  go_wp2
  go_loop [3, 11] (fun v3 v11 => ∃ k : Nat, k ≤ n ∧ v11 = .int .i64 k ∧ v3 = .int .i64 (preN ls k : Nat)) (fun _ v11 => n - (intOf v11).toNat)
  case atStart => exact ⟨0, Nat.zero_le _, rfl, rfl⟩
  case round =>
    obtain ⟨k, hk, rfl, rfl⟩ := hrel
    by_cases hlt : k < n
    · obtain ⟨b, o, x, v, rfl, hx, hv, hc⟩ := HEL.out k hlt
      obtain ⟨ao, cp, rfl⟩ := hv.shape
      have hfs := congrArg List.length (flatten_succ ls k x hx)
      rw [List.length_append] at hfs
      change preN ls (k + 1) = preN ls k + x.length at hfs
      have hle : preN ls (k + 1) ≤ ls.flatten.length := flatten_le ls (k + 1)
      have hzz := HZ.out
      obtain ⟨t, ht⟩ : ∃ t, t = preN ls k := ⟨_, rfl⟩
      rw [← ht] at hfs ⊢
      have HFS := Lib.hid hfs
      have hb1 : (t : Int) + (x.length : Int) ≤ 140737488355328 := by omega
      have ht0 : (0 : Int) ≤ (t : Int) := by omega
      have hx0 : (0 : Int) ≤ (x.length : Int) := by omega
      have hk0 : (0 : Int) ≤ k := by omega
      have hkn : (k : Int) < (n : Int) := by omega
      clear hfs hle hzz hv hx ht
      generalize x.length = m at *
      go_wp2
      go_round
      case rel => exact ⟨k + 1, by omega, by go_num, by rw [HFS.out]; go_num⟩
      case measure => simp [intOf]; omega
    · obtain rfl : k = n := by omega
      have hfa : preN ls k = tot := by rw [HTE.out]; unfold preN; rw [List.take_of_length_le (by rw [HN.out]; exact Nat.le_refl _)]
      rw [hfa]
      clear hfa
      go_wp2_with fail
      with_reducible refine (grow_str tot w HTOT.out).mono ?_
      rintro e w1 ⟨v0, rfl, hw1, ho1, hb1⟩
      obtain ⟨ao0, m0, c0, hv0⟩ := row_shape_l hw1
      have HW1 := Lib.hid hw1
      have HO1 := Lib.hid ho1
      have HB1 := Lib.hid hb1
      clear hw1 ho1 hb1
      subst hv0
      go_wp2
      go_loopw [6, 27] (fun v6 v27 wr => ∃ i : Nat, i ≤ k ∧ v27 = .int .i64 i ∧ wr.ownsRow 0 9 1 v6 (preV strV ls i).length (preV strV ls i) ∧ (∀ g, v6.ownBlock = some g → w.heap.size ≤ g) ∧ Below w.heap.size w wr) (fun _ v27 _ => k - (intOf v27).toNat)
      case atStart => exact ⟨0, Nat.zero_le _, rfl, HW1.out, HO1.out, HB1.out⟩
      case round =>
        obtain ⟨i, hi, rfl, hown, hog, hbw⟩ := hrel
        obtain ⟨ao6, m6, c6, hv6⟩ := row_shape_l hown
        subst hv6
        have HOWN := Lib.hid hown
        have HOG := Lib.hid hog
        have HBW := Lib.hid hbw
        clear hown hog hbw
        by_cases hlt2 : i < k
        · obtain ⟨b, o, x, v, rfl, hx, hv, hc⟩ := HEL.out i hlt2
          have hoW := Only.ofBelow (S := fun _ => False) HBW.out
          have hcW := hoW.cell hc id
          have hfs := flatten_succ ls i x hx
          have hle := flatten_le ls (i + 1)
          have HRUN : Hid (∀ ty, ∃ v' w', (Builtin.append_ #[22, 22] ty #[.slice ao6 m6 c6, v]).run Tryz.prog wr = .ok v' w' ∧ w'.ownsRow 0 9 1 v' (preV strV ls (i + 1)).length (preV strV ls (i + 1)) ∧ Grew wr (.slice ao6 m6 c6) w' v') := Lib.hid (fun ty => by
            have hps : preV strV ls (i + 1) = preV strV ls i ++ x.map strV := by unfold preV; rw [hfs, List.map_append]
            have hpl : (preV strV ls i).length = (ls.take i).flatten.length := by unfold preV; rw [List.length_map]
            rw [hps, List.length_append]
            rcases hv with ⟨ao, cp, rfl, rfl⟩ | ⟨b2, o2, cap2, rfl, _, hcc⟩
            · refine ⟨_, _, run_append_empty _ _ ty _ j0 1 Tryz.underlying22 hji _ _ _ HOWN.out ao cp, ?_, Grew.refl _ _⟩
              simp only [List.map_nil, List.append_nil, List.length_nil, Nat.add_zero]
              exact HOWN.out
            · have hb2 : (ls.take i).flatten.length + x.length ≤ ls.flatten.length := by rw [← List.length_append, ← hfs]; exact hle
              have hlm := HLIM.out
              have hcells := flat_at1 (f := strV) (fun _ => rfl) hcc
              have hr := run_append_fine (P := Tryz.prog) wr 22 ty 9 j0 (.string ⟨#[]⟩) 1 16 Tryz.underlying22 hji hz0 hz1 hz2 rfl (by decide) _ _ _ HOWN.out ⟨b2, o2, none⟩ x.length cap2 (x.map strV) (by simp)
                (fun j u hj => hoW.cell (hcells j u hj) id) (fun u hu => by obtain ⟨y, _, rfl⟩ := List.mem_map.1 hu; rfl) (by rw [hpl]; unfold maxLen; omega) (by rw [hpl]; omega)
              rw [List.length_map]
              exact hr)
          have hshape : ∃ ao cp, v = .slice ao x.length cp := hv.shape
          obtain ⟨ao, cp, rfl⟩ := hshape
          have hi0 : (0 : Int) ≤ i := by omega
          have hin : (i : Int) < (k : Int) := by omega
          clear hc hv hx hoW hfs hle
          go_wp2_with (at_builtin; (obtain ⟨v', w', hrun, hown', hgrow⟩ := HRUN.out _; refine wpList_append_eq rfl _ _ 22 rfl _ _ v' w' rfl rfl hrun ?_))
          have hog' : ∀ g, v'.ownBlock = some g → w.heap.size ≤ g := fun g hg => by
            rcases hgrow.came with e | e
            · exact HOG.out g (e ▸ hg)
            · exact Nat.le_trans HBW.out.size (e g hg)
          have hbw' : Below w.heap.size w w' := HBW.out.trans (hgrow.only.below HBW.out.size (fun q hq => HOG.out q hq))
          have HOWN' := Lib.hid hown'
          have HOG' := Lib.hid hog'
          have HBW' := Lib.hid hbw'
          clear hown' hog' hbw' hgrow hrun hcW
          go_wp2
          go_roundw
          case rel => exact ⟨i + 1, by omega, by go_num, HOWN'.out, HOG'.out, HBW'.out⟩
          case measure => simp [intOf]; omega
        · obtain rfl : i = k := by omega
          have hfin : wr.ownsRow 0 9 1 (.slice ao6 m6 c6) X.length X := by
            have h := HOWN.out
            unfold preV at h
            rw [List.take_of_length_le (by rw [HN.out]; exact Nat.le_refl _), ← HX.out] at h
            exact h
          have HF := Lib.hid hfin
          clear hfin
          go_wp2
          go_ret
          exact ⟨_, rfl, HF.out, HOG.out, HBW.out⟩
theorem info_byte : (Tryz.prog.info? 5).map (fun i => (i.zero, i.size, i.bytes)) = some (some (.int .u8 0), 1, 1) := by kernel_rfl
set_option maxHeartbeats 2000000 in
set_option maxRecDepth 100000 in
theorem grow_byte (n : Nat) (w : World) (hn : n * 1 ≤ 140737488355328) :
    Calls Tryz.prog 204 #[.slice none 0 0, .int .i64 (n : Nat)] w fun e w' => ∃ v, e = .returned v ∧ w'.ownsRow 0 5 1 v 0 [] ∧ (∀ g, v.ownBlock = some g → w.heap.size ≤ g) ∧ Below w.heap.size w w' := by
  obtain ⟨j0, hji, hz0, hz1, hz2⟩ := info_parts info_byte
  have hn2 : (n : Int) ≤ 140737488355328 := by omega
  have hn0 : (0 : Int) ≤ (n : Int) := by omega
  by_cases h0 : n = 0
  · subst h0
    go_enter Tryz.func204, Tryz.ntmps204
    go_wp2
    go_ret
    exact ⟨_, rfl, World.ownsRow_nil _ _ _ _, fun g hg => by simp [Value.ownBlock] at hg, Below.refl _ _⟩
  · have hpos : 0 < (n : Int) := by omega
    have HR := Lib.hid (fun ty => Lib.run_append_nil_zeros (P := Tryz.prog) w 71 3 ty 5 j0 (.int .u8 0) .i64 .i64 Tryz.underlying71 Tryz.underlying3 hji hz0 n (by omega) (by rw [hz1]; decide) (by omega) (by rw [hz2]; omega))
    have hge := grownCap_ge w n 0 5
    have hcm : grownCap w n 0 5 ≤ maxLen := grownCap_le_maxLen w _ 0 5 (by unfold maxLen; omega)
    have hcz : (Builtin.zeroCells (.int .u8 0 : Value).cells n ++ Builtin.zeroCells (.int .u8 0 : Value).cells (grownCap w n 0 5 - n)).size = grownCap w n 0 5 := by
      rw [Array.size_append, size_zeroCells, size_zeroCells, show (.int .u8 0 : Value).cells.size = 1 from rfl]
      omega
    have HGE := Lib.hid hge
    have HCM := Lib.hid hcm
    have HCZ := Lib.hid hcz
    clear hge hcm hcz hji hz0 hz1 hz2
    generalize grownCap w n 0 5 = gc at *
    generalize (Builtin.zeroCells (.int .u8 0 : Value).cells n ++ Builtin.zeroCells (.int .u8 0 : Value).cells (gc - n)) = zs at *
    have hgc : (0 : Int) ≤ (gc : Int) := by omega
    go_enter Tryz.func204, Tryz.ntmps204
    go_wp2_with (at_builtin; refine Lib.wpList_append_run _ rfl _ _ 71 3 rfl (.slice none 0 0) (.int .i64 (n : Nat)) rfl rfl _ _ (HR.out _) ?_)
    go_ret
    refine ⟨_, rfl, ⟨rfl, .inr ⟨w.heap.size, gc, zs, rfl, Nat.zero_le _, heap_alloc_new w.drew _, Nat.zero_le _, HCM.out, by rw [HCZ.out, Nat.mul_one], by simp⟩⟩, fun g hg => by simp [Value.ownBlock] at hg; omega, (Below.refl _ w).drew.alloc (Nat.le_refl _) _⟩
set_option maxHeartbeats 2000000 in
set_option maxRecDepth 100000 in
theorem concat_byte {A : Nat → Prop} (ls : List (List (UInt8))) (sv : Value) (w : World) (hs : Src 1 (SlR 1 ByteR) A w sv ls) (hlim : ls.flatten.length * 1 ≤ 140737488355328) (hln : ls.length ≤ 1048576) :
    Calls Tryz.prog 140 #[sv] w (Joined 5 (ls.flatten.map byteV) w) := by
  obtain ⟨X, hX⟩ : ∃ X, X = ls.flatten.map byteV := ⟨_, rfl⟩
  rw [← hX]
  have HX := Lib.hid hX
  clear hX
  obtain ⟨tot, htot⟩ : ∃ tot, tot = ls.flatten.length := ⟨_, rfl⟩
  have HTE := Lib.hid htot
  have HTOT : Hid (tot * 1 ≤ 140737488355328) := Lib.hid (by rw [htot]; exact hlim)
  clear htot
  obtain ⟨j0, hji, hz0, hz1, hz2⟩ := info_parts info_byte
  have HSRC := Lib.hid hs
  have HLIM := Lib.hid hlim
  obtain ⟨n, hnn⟩ : ∃ n, n = ls.length := ⟨_, rfl⟩
  obtain ⟨so, sc, rfl⟩ : ∃ so sc, sv = .slice so n sc := by rw [hnn]; exact hs.shape
  rw [← hnn] at hln
  have HN := Lib.hid hnn
  clear hnn
  have HEL : Hid (∀ k : Nat, k < n → ∃ (b o : Nat) (x : List (UInt8)) (v : Value), so = some ⟨b, o, none⟩ ∧ ls[k]? = some x ∧ Src 1 ByteR A w v x ∧ w.cell? ⟨b, o + k, none⟩ = some v) := Lib.hid (fun k hk => by
    rcases hs with ⟨ao, cp0, he, rfl⟩ | ⟨b, o, cap, he, _, hc⟩
    · simp at he
      omega
    · simp at he
      have hkl : k < ls.length := by omega
      obtain ⟨v, hv, hsz, hcl⟩ := hc k _ (List.getElem?_eq_getElem hkl)
      refine ⟨b, o, _, v, he.1, List.getElem?_eq_getElem hkl, hv, ?_⟩
      have := hcl 0 v (by obtain ⟨ao, cp, rfl⟩ := Src.shape hv; rfl)
      rw [Nat.mul_one, Nat.add_zero] at this
      exact this)
  clear hs hlim
  have hz : ls.flatten.length ≤ 140737488355328 := by have := HLIM.out; omega
  have HZ := Lib.hid hz
  clear hz
  go_enter Tryz.func140, Tryz.ntmps140
  go_wp2
  go_loop [3, 11] (fun v3 v11 => ∃ k : Nat, k ≤ n ∧ v11 = .int .i64 k ∧ v3 = .int .i64 (preN ls k : Nat)) (fun _ v11 => n - (intOf v11).toNat)
  case atStart => exact ⟨0, Nat.zero_le _, rfl, rfl⟩
  case round =>
    obtain ⟨k, hk, rfl, rfl⟩ := hrel
    by_cases hlt : k < n
    · obtain ⟨b, o, x, v, rfl, hx, hv, hc⟩ := HEL.out k hlt
      obtain ⟨ao, cp, rfl⟩ := hv.shape
      have hfs := congrArg List.length (flatten_succ ls k x hx)
      rw [List.length_append] at hfs
      change preN ls (k + 1) = preN ls k + x.length at hfs
      have hle : preN ls (k + 1) ≤ ls.flatten.length := flatten_le ls (k + 1)
      have hzz := HZ.out
      obtain ⟨t, ht⟩ : ∃ t, t = preN ls k := ⟨_, rfl⟩
      rw [← ht] at hfs ⊢
      have HFS := Lib.hid hfs
      have hb1 : (t : Int) + (x.length : Int) ≤ 140737488355328 := by omega
      have ht0 : (0 : Int) ≤ (t : Int) := by omega
      have hx0 : (0 : Int) ≤ (x.length : Int) := by omega
      have hk0 : (0 : Int) ≤ k := by omega
      have hkn : (k : Int) < (n : Int) := by omega
      clear hfs hle hzz hv hx ht
      generalize x.length = m at *
      go_wp2
      go_round
      case rel => exact ⟨k + 1, by omega, by go_num, by rw [HFS.out]; go_num⟩
      case measure => simp [intOf]; omega
    · obtain rfl : k = n := by omega
      have hfa : preN ls k = tot := by rw [HTE.out]; unfold preN; rw [List.take_of_length_le (by rw [HN.out]; exact Nat.le_refl _)]
      rw [hfa]
      clear hfa
      go_wp2_with fail
      with_reducible refine (grow_byte tot w HTOT.out).mono ?_
      rintro e w1 ⟨v0, rfl, hw1, ho1, hb1⟩
      obtain ⟨ao0, m0, c0, hv0⟩ := row_shape_l hw1
      have HW1 := Lib.hid hw1
      have HO1 := Lib.hid ho1
      have HB1 := Lib.hid hb1
      clear hw1 ho1 hb1
      subst hv0
      go_wp2
      go_loopw [6, 27] (fun v6 v27 wr => ∃ i : Nat, i ≤ k ∧ v27 = .int .i64 i ∧ wr.ownsRow 0 5 1 v6 (preV byteV ls i).length (preV byteV ls i) ∧ (∀ g, v6.ownBlock = some g → w.heap.size ≤ g) ∧ Below w.heap.size w wr) (fun _ v27 _ => k - (intOf v27).toNat)
      case atStart => exact ⟨0, Nat.zero_le _, rfl, HW1.out, HO1.out, HB1.out⟩
      case round =>
        obtain ⟨i, hi, rfl, hown, hog, hbw⟩ := hrel
        obtain ⟨ao6, m6, c6, hv6⟩ := row_shape_l hown
        subst hv6
        have HOWN := Lib.hid hown
        have HOG := Lib.hid hog
        have HBW := Lib.hid hbw
        clear hown hog hbw
        by_cases hlt2 : i < k
        · obtain ⟨b, o, x, v, rfl, hx, hv, hc⟩ := HEL.out i hlt2
          have hoW := Only.ofBelow (S := fun _ => False) HBW.out
          have hcW := hoW.cell hc id
          have hfs := flatten_succ ls i x hx
          have hle := flatten_le ls (i + 1)
          have HRUN : Hid (∀ ty, ∃ v' w', (Builtin.append_ #[71, 71] ty #[.slice ao6 m6 c6, v]).run Tryz.prog wr = .ok v' w' ∧ w'.ownsRow 0 5 1 v' (preV byteV ls (i + 1)).length (preV byteV ls (i + 1)) ∧ Grew wr (.slice ao6 m6 c6) w' v') := Lib.hid (fun ty => by
            have hps : preV byteV ls (i + 1) = preV byteV ls i ++ x.map byteV := by unfold preV; rw [hfs, List.map_append]
            have hpl : (preV byteV ls i).length = (ls.take i).flatten.length := by unfold preV; rw [List.length_map]
            rw [hps, List.length_append]
            rcases hv with ⟨ao, cp, rfl, rfl⟩ | ⟨b2, o2, cap2, rfl, _, hcc⟩
            · refine ⟨_, _, run_append_empty _ _ ty _ j0 1 Tryz.underlying71 hji _ _ _ HOWN.out ao cp, ?_, Grew.refl _ _⟩
              simp only [List.map_nil, List.append_nil, List.length_nil, Nat.add_zero]
              exact HOWN.out
            · have hb2 : (ls.take i).flatten.length + x.length ≤ ls.flatten.length := by rw [← List.length_append, ← hfs]; exact hle
              have hlm := HLIM.out
              have hcells := flat_at1 (f := byteV) (fun _ => rfl) hcc
              have hr := run_append_fine (P := Tryz.prog) wr 71 ty 5 j0 (.int .u8 0) 1 1 Tryz.underlying71 hji hz0 hz1 hz2 rfl (by decide) _ _ _ HOWN.out ⟨b2, o2, none⟩ x.length cap2 (x.map byteV) (by simp)
                (fun j u hj => hoW.cell (hcells j u hj) id) (fun u hu => by obtain ⟨y, _, rfl⟩ := List.mem_map.1 hu; rfl) (by rw [hpl]; unfold maxLen; omega) (by rw [hpl]; omega)
              rw [List.length_map]
              exact hr)
          have hshape : ∃ ao cp, v = .slice ao x.length cp := hv.shape
          obtain ⟨ao, cp, rfl⟩ := hshape
          have hi0 : (0 : Int) ≤ i := by omega
          have hin : (i : Int) < (k : Int) := by omega
          clear hc hv hx hoW hfs hle
          go_wp2_with (at_builtin; (obtain ⟨v', w', hrun, hown', hgrow⟩ := HRUN.out _; refine wpList_append_eq rfl _ _ 71 rfl _ _ v' w' rfl rfl hrun ?_))
          have hog' : ∀ g, v'.ownBlock = some g → w.heap.size ≤ g := fun g hg => by
            rcases hgrow.came with e | e
            · exact HOG.out g (e ▸ hg)
            · exact Nat.le_trans HBW.out.size (e g hg)
          have hbw' : Below w.heap.size w w' := HBW.out.trans (hgrow.only.below HBW.out.size (fun q hq => HOG.out q hq))
          have HOWN' := Lib.hid hown'
          have HOG' := Lib.hid hog'
          have HBW' := Lib.hid hbw'
          clear hown' hog' hbw' hgrow hrun hcW
          go_wp2
          go_roundw
          case rel => exact ⟨i + 1, by omega, by go_num, HOWN'.out, HOG'.out, HBW'.out⟩
          case measure => simp [intOf]; omega
        · obtain rfl : i = k := by omega
          have hfin : wr.ownsRow 0 5 1 (.slice ao6 m6 c6) X.length X := by
            have h := HOWN.out
            unfold preV at h
            rw [List.take_of_length_le (by rw [HN.out]; exact Nat.le_refl _), ← HX.out] at h
            exact h
          have HF := Lib.hid hfin
          clear hfin
          go_wp2
          go_ret
          exact ⟨_, rfl, HF.out, HOG.out, HBW.out⟩
end Go.Proofs.YtpincofjopmaaaaGreatDoor
namespace Go.Proofs.YtpincofjopmaaaaGreatDoor
open Go.RowKit
theorem cls_shape {A : Nat → Prop} {w : World} {c : Cls} {v : Value} (h : ClsR A w c v) : ∃ lv fv mv, v = .agg #[.string (S c.name), .string (S c.sup), lv, .bool c.itf, .bool c.abs, .bool c.fin, fv, mv] ∧ (∃ lo lc, lv = .slice lo c.like.length lc) ∧ (∃ fo fc, fv = .slice fo c.flds.length fc) ∧ ∃ mo mc, mv = .slice mo c.mths.length mc := by
  obtain ⟨pv, cv, kv, rfl, h1, h2, h3⟩ := h
  exact ⟨pv, cv, kv, rfl, h1.shape, h2.shape, h3.shape⟩
theorem BS.le {w0 w w' : World} {v : Value} {l : List UInt8} (h : Below w0.heap.size w0 w) (s : BS w w' v l) : BS w0 w' v l := ⟨s.row, fun g hg => Nat.le_trans h.size (s.own g hg), h.trans (s.bel.mono h.size)⟩
theorem textsMost_le (ts : List (List UInt8)) (B : Nat) (h : ∀ s ∈ ts, s.length ≤ B) : textsMost ts ≤ (B + 10) * ts.length := by
  induction ts with
  | nil => simp [textsMost]
  | cons x r ih =>
    have h1 := h x (by simp)
    have h2 := ih (fun y hy => h y (by simp [hy]))
    unfold textsMost at h2 ⊢
    rw [List.map_cons, List.sum_cons, List.length_cons, Nat.mul_succ]
    omega
set_option maxHeartbeats 4000000 in
set_option maxRecDepth 100000 in
theorem ctexts_any (ts : List (List UInt8)) (X o c : Nat) (w : World) (hX : X < w.heap.size) (hc : ∀ j, j < ts.length → w.cell? ⟨X, o + j, none⟩ = some (.string (S (ts.getD j [])))) (hlim : textsMost ts ≤ 140737488355328) (hl2 : (texts ts).length ≤ 140737488355328) :
    Calls Tryz.prog 141 #[.slice (some ⟨X, o, none⟩) ts.length c] w (Bytes' w (texts ts)) := by
  have hb0 : Below w.heap.size w (w.alloc (.cells #[.slice none 0 0] 237)) := (Below.refl _ w).alloc (Nat.le_refl _) _
  have s0 := WS.new (Below.refl w.heap.size w)
  have HW := Lib.hid (wtext_any w.heap.size X o c (.slice none 0 0) [] ts _ s0.wr (by omega) (by simp [Value.ownBlock]) (fun j hj => (Only.ofBelow (S := fun _ => False) hb0).cell (hc j hj) id) (by simpa using hlim))
  have HS := Lib.hid s0
  have HL2 := Lib.hid hl2
  clear hc hlim hb0 s0 hl2 hX
  generalize texts ts = bs at HW HL2 ⊢
  generalize ts.length = n at HW ⊢
  go_enter Tryz.func141, Tryz.ntmps141
  go_wp2_with fail
  refine (write_any _).mono ?_
  rintro e w1 ⟨rfl, rfl⟩
  go_wp2_with fail
  refine HW.out.mono ?_
  intro e w2 hw
  obtain ⟨rfl, v2, s2⟩ := hw.ws HS.out
  rw [List.nil_append] at s2
  have HBY := Lib.hid (ws_bytes s2 HL2.out)
  clear s2 hw
  go_wp2_with fail
  refine HBY.out.mono ?_
  rintro e w3 ⟨v3, rfl, s3⟩
  obtain ⟨ao3, m3, c3, rfl⟩ := row_shape s3.row
  clear HBY
  go_wp2
  go_ret
  exact ⟨_, rfl, s3⟩
set_option maxHeartbeats 4000000 in
set_option maxRecDepth 100000 in
theorem cflags_any (ts : List (Bool)) (X o c : Nat) (w : World) (hX : X < w.heap.size) (hc : ∀ j, j < ts.length → w.cell? ⟨X, o + j, none⟩ = some (.bool (ts.getD j false))) (hlim : ts.length ≤ 140737488355328) (hl2 : (ts.map flagByte).length ≤ 140737488355328) :
    Calls Tryz.prog 144 #[.slice (some ⟨X, o, none⟩) ts.length c] w (Bytes' w (ts.map flagByte)) := by
  have hb0 : Below w.heap.size w (w.alloc (.cells #[.slice none 0 0] 237)) := (Below.refl _ w).alloc (Nat.le_refl _) _
  have s0 := WS.new (Below.refl w.heap.size w)
  have HW := Lib.hid (wflag_any w.heap.size X o c (.slice none 0 0) [] ts _ s0.wr (by omega) (by simp [Value.ownBlock]) (fun j hj => (Only.ofBelow (S := fun _ => False) hb0).cell (hc j hj) id) (by simpa using hlim))
  have HS := Lib.hid s0
  have HL2 := Lib.hid hl2
  clear hc hlim hb0 s0 hl2 hX
  generalize ts.map flagByte = bs at HW HL2 ⊢
  generalize ts.length = n at HW ⊢
  go_enter Tryz.func144, Tryz.ntmps144
  go_wp2_with fail
  refine (write_any _).mono ?_
  rintro e w1 ⟨rfl, rfl⟩
  go_wp2_with fail
  refine HW.out.mono ?_
  intro e w2 hw
  obtain ⟨rfl, v2, s2⟩ := hw.ws HS.out
  rw [List.nil_append] at s2
  have HBY := Lib.hid (ws_bytes s2 HL2.out)
  clear s2 hw
  go_wp2_with fail
  refine HBY.out.mono ?_
  rintro e w3 ⟨v3, rfl, s3⟩
  obtain ⟨ao3, m3, c3, rfl⟩ := row_shape s3.row
  clear HBY
  go_wp2
  go_ret
  exact ⟨_, rfl, s3⟩
set_option maxHeartbeats 4000000 in
set_option maxRecDepth 100000 in
theorem cnums_any (ns : List Nat) (X o c : Nat) (w : World) (hc : ∀ j x, ns[j]? = some x → w.cell? ⟨X, o + j, none⟩ = some (.int .i64 (x : Nat))) (hn : ∀ x ∈ ns, x ≤ 9223372036854775807) (hlen : ns.length ≤ 1048576) :
    Calls Tryz.prog 208 #[.slice (some ⟨X, o, none⟩) ns.length c] w (Bytes' w (nums ns)) := by
  have HC := Lib.hid hc
  have HNN := Lib.hid hn
  obtain ⟨n, hnn⟩ : ∃ n, n = ns.length := ⟨_, rfl⟩
  rw [← hnn] at hlen ⊢
  have HN := Lib.hid hnn
  clear hc hn hnn
  have s0 := WS.new (Below.refl w.heap.size w)
  have HS0 := Lib.hid s0
  clear s0
  have hlb : ∀ k, (nums (ns.take k)).length ≤ 10 * n := fun k => by
    have h1 := flat_le Lib.uvarint 10 (ns.take k) (fun x hx => Lib.uvarint_length64 (by have := HNN.out x (List.mem_of_mem_take hx); omega))
    rw [List.length_take] at h1
    have h2 := HN.out
    unfold nums
    have h3 : 10 * min k ns.length ≤ 10 * n := Nat.mul_le_mul_left 10 (by omega)
    omega
  have HLB := Lib.hid hlb
  clear hlb
  obtain ⟨b, hb⟩ : ∃ b, b = w.heap.size := ⟨_, rfl⟩
  have HBB := Lib.hid hb
  go_enter Tryz.func208, Tryz.ntmps208
  go_wp2_with fail
  refine (write_any _).mono ?_
  rintro e w1 ⟨rfl, rfl⟩
  rw [← hb] at HS0 ⊢
  generalize w.alloc (.cells #[.slice none 0 0] 237) = W1 at HS0 ⊢
  clear hb
  go_wp2
  go_loopw [9] (fun v9 wr => ∃ (k : Nat) (v : Value), k ≤ n ∧ v9 = .int .i64 k ∧ WS w wr b v (nums (ns.take k))) (fun v9 _ => n - (intOf v9).toNat)
  case atStart => exact ⟨0, .slice none 0 0, Nat.zero_le _, rfl, HS0.out⟩
  case round =>
    obtain ⟨k, v, hk, rfl, hws⟩ := hrel
    have HWS := Lib.hid hws
    clear hws
    by_cases hlt : k < n
    · have hkl : k < ns.length := by have := HN.out; omega
      obtain ⟨x, hx⟩ : ∃ x, ns[k]? = some x := ⟨_, List.getElem?_eq_getElem hkl⟩
      have hcell := (Only.ofBelow (S := fun _ => False) HWS.out.bel).cell (HC.out k x hx) id
      have hxb := HNN.out x (List.mem_of_getElem? hx)
      have hsn : nums (ns.take (k + 1)) = nums (ns.take k) ++ Lib.uvarint x := by unfold nums; rw [List.take_add_one, hx]; simp
      have HSN := Lib.hid hsn
      have hx0 : (0 : Int) ≤ (x : Int) := by omega
      have hx1 : (x : Int) ≤ 9223372036854775807 := by omega
      have hk0 : (0 : Int) ≤ k := by omega
      have hkn : (k : Int) < (n : Int) := by omega
      have HWN := Lib.hid (ws_num HWS.out x (by omega) (by have := HLB.out k; omega))
      clear hkl hx hsn
      go_wp2_with fail
      refine HWN.out.mono ?_
      rintro e w2 ⟨rfl, v2, s2⟩
      rw [← HSN.out] at s2
      have HS2 := Lib.hid s2
      clear s2 hcell HWN
      go_wp2
      go_roundw
      case rel => exact ⟨k + 1, v2, by omega, by go_num, HS2.out⟩
      case measure => simp [intOf]; omega
    · obtain rfl : k = n := by omega
      have hfa : nums (ns.take k) = nums ns := by rw [List.take_of_length_le (by rw [HN.out]; exact Nat.le_refl _)]
      have HFA := Lib.hid hfa
      have HBY := Lib.hid (ws_bytes HWS.out (by have := HLB.out k; omega))
      rw [hfa] at HBY
      clear hfa
      go_wp2_with fail
      refine HBY.out.mono ?_
      rintro e w3 ⟨v3, rfl, s3⟩
      obtain ⟨ao3, m3, c3, rfl⟩ := row_shape s3.row
      clear HBY
      go_wp2
      go_ret
      exact ⟨_, rfl, s3⟩
set_option maxHeartbeats 4000000 in
set_option maxRecDepth 100000 in
theorem pc1_any (s : List UInt8) (w : World) (hs : s.length ≤ 4096) :
    Calls Tryz.prog 143 #[.string (S s)] w (Bytes' w (textBytes s)) := by
  have hb0 : Below w.heap.size w (w.alloc (.cells #[.string (S s)] 9)) := (Below.refl _ w).alloc (Nat.le_refl _) _
  have ht := text_le s 4096 hs (by decide)
  have HT := Lib.hid (ctexts_any [s] w.heap.size 0 1 (w.alloc (.cells #[.string (S s)] 9)) (by simp) (fun j hj => by (obtain rfl : j = 0 := (by simpa using hj)); simp) (by simp [textsMost]; omega) (by simp [texts]; omega))
  rw [show texts [s] = textBytes s from by simp [texts]] at HT
  have HB0 := Lib.hid hb0
  clear hb0 ht hs
  go_enter Tryz.func143, Tryz.ntmps143
  go_wp2_with fail
  refine HT.out.mono ?_
  rintro e w1 ⟨v1, rfl, s1⟩
  obtain ⟨ao1, m1, c1, rfl⟩ := row_shape s1.row
  have HS := Lib.hid (s1.le HB0.out)
  clear s1
  go_wp2
  go_ret
  exact ⟨_, rfl, HS.out⟩
set_option maxHeartbeats 4000000 in
set_option maxRecDepth 100000 in
theorem pm1_any (s : List UInt8) (w : World) (hs : s.length ≤ 4096) :
    Calls Tryz.prog 210 #[.string (S s)] w (Bytes' w (textBytes s)) := by
  have hb0 : Below w.heap.size w (w.alloc (.cells #[.string (S s)] 9)) := (Below.refl _ w).alloc (Nat.le_refl _) _
  have ht := text_le s 4096 hs (by decide)
  have HT := Lib.hid (ctexts_any [s] w.heap.size 0 1 (w.alloc (.cells #[.string (S s)] 9)) (by simp) (fun j hj => by (obtain rfl : j = 0 := (by simpa using hj)); simp) (by simp [textsMost]; omega) (by simp [texts]; omega))
  rw [show texts [s] = textBytes s from by simp [texts]] at HT
  have HB0 := Lib.hid hb0
  clear hb0 ht hs
  go_enter Tryz.func210, Tryz.ntmps210
  go_wp2_with fail
  refine HT.out.mono ?_
  rintro e w1 ⟨v1, rfl, s1⟩
  obtain ⟨ao1, m1, c1, rfl⟩ := row_shape s1.row
  have HS := Lib.hid (s1.le HB0.out)
  clear s1
  go_wp2
  go_ret
  exact ⟨_, rfl, HS.out⟩
set_option maxHeartbeats 4000000 in
set_option maxRecDepth 100000 in
theorem putl_str {A : Nat → Prop} (F : Nat) (g : List UInt8 → List UInt8) (l : List (List UInt8)) (sv : Value) (w : World) (he : ∀ args w, (callFunc F args).run Tryz.prog w = .ok (.enter F args) w)
    (hs : Src 1 StrR A w sv l) (hF : ∀ (k : Nat) (x : List UInt8) (v : Value) (w' : World), l[k]? = some x → Below w.heap.size w w' → StrR A w' x v → Calls Tryz.prog F #[v] w' (Bytes' w' (g x))) (hlen : l.length ≤ 1048576) (hlim : (l.flatMap g).length ≤ 1099511627776) :
    Calls Tryz.prog 142 #[sv, .func (.func F) #[] #[]] w (Bytes' w (listB g l)) := by
  obtain ⟨j0, hji, hz0, hz1, hz2⟩ := info_parts info_u8
  have HF := Lib.hid hF
  have HE := Lib.hid he
  have HLM := Lib.hid hlim
  obtain ⟨n, hnn⟩ : ∃ n, n = l.length := ⟨_, rfl⟩
  obtain ⟨so, sc, rfl⟩ : ∃ so sc, sv = .slice so n sc := by rw [hnn]; exact hs.shape
  have HN := Lib.hid hnn
  have hn1 : n ≤ 1048576 := by omega
  have HC : Hid (∀ (k : Nat) (x : List UInt8), l[k]? = some x → ∃ b o v, so = some ⟨b, o, none⟩ ∧ StrR A w x v ∧ v.cells.size = 1 ∧ ∀ j u, v.cells[j]? = some u → w.cell? ⟨b, o + k * 1 + j, none⟩ = some u) := Lib.hid (fun k x hx => by
    rcases hs with ⟨ao, cp0, he, rfl⟩ | ⟨b, o, cap, he, _, hc⟩
    · simp at hx
    · simp at he
      obtain ⟨v, hv, hsz, hcl⟩ := hc k x hx
      exact ⟨b, o, v, he.1, hv, hsz, hcl⟩)
  have HNB : Hid (Calls Tryz.prog 208 #[.slice (some ⟨w.heap.size, 0, none⟩) 1 1] (w.alloc (.cells #[.int .i64 (n : Nat)] 3)) (Bytes' (w.alloc (.cells #[.int .i64 (n : Nat)] 3)) (Lib.uvarint n))) := Lib.hid (by
    have q := cnums_any [n] w.heap.size 0 1 (w.alloc (.cells #[.int .i64 (n : Nat)] 3)) (fun j x hx => by
      match j, hx with
      | 0, hx => (obtain rfl : n = x := (by simpa using hx)); simp
      | j + 1, hx => simp at hx) (fun x hx => by simp at hx; omega) (by simp)
    rw [show nums [n] = Lib.uvarint n from by simp [nums]] at q
    exact q)
  have HB0 := Lib.hid ((Below.refl w.heap.size w).alloc (Nat.le_refl _) (.cells #[.int .i64 (n : Nat)] 3))
  have HUV := Lib.hid (show (Lib.uvarint n).length ≤ 10 from Lib.uvarint_length64 (by omega))
  obtain ⟨Z, hZ⟩ : ∃ Z : Nat → List UInt8, Z = fun k => Lib.uvarint n ++ (l.take k).flatMap g := ⟨_, rfl⟩
  have HZ := Lib.hid hZ
  obtain ⟨Y, hY⟩ : ∃ Y, Y = listB g l := ⟨_, rfl⟩
  rw [← hY]
  have HY := Lib.hid hY
  clear hF he hs hlim hnn hlen hZ hY
  go_enter Tryz.func142, Tryz.ntmps142
  go_wp2_with fail
  refine HNB.out.mono ?_
  rintro e w1 ⟨v1, rfl, s1⟩
  obtain ⟨ao1, m1, c1, rfl⟩ := row_shape s1.row
  have hz0' : BS w w1 (.slice ao1 m1 c1) (Z 0) := by
    have := s1.le HB0.out
    rw [HZ.out]
    simpa using this
  have HS1 := Lib.hid hz0'
  clear s1 hz0'
  go_wp2
  go_loopw [5, 14] (fun v5 v14 wr => ∃ (k : Nat), k ≤ n ∧ v14 = .int .i64 k ∧ BS w wr v5 (Z k)) (fun _ v14 _ => n - (intOf v14).toNat)
  case atStart => exact ⟨0, Nat.zero_le _, rfl, HS1.out⟩
  case round =>
    obtain ⟨k, hk, rfl, hbs⟩ := hrel
    obtain ⟨ao5, m5, c5, rfl⟩ := row_shape hbs.row
    have HBS := Lib.hid hbs
    clear hbs
    by_cases hlt : k < n
    · have hkl : k < l.length := by have := HN.out; omega
      obtain ⟨x, hx⟩ : ∃ x, l[k]? = some x := ⟨_, List.getElem?_eq_getElem hkl⟩
      have hoW := Only.ofBelow (S := fun _ => False) HBS.out.bel
      have HX := Lib.hid hx
      obtain ⟨b, o, v, rfl, hv, hsz, hcl⟩ := HC.out k x hx
      have HV := Lib.hid (StrR.st.keep hv hoW (fun _ _ => id))
      obtain rfl := hv
      have d0 : wr.cell? ⟨b, o + k, none⟩ = some (.string (S x)) := hoW.cell (a := ⟨b, o + k, none⟩) (by have q := hcl 0 _ rfl; rw [Nat.mul_one] at q; exact q) id
      clear hcl hsz
      have hzs : Z (k + 1) = Z k ++ g x := by
        rw [HZ.out]
        dsimp only
        rw [List.take_add_one, HX.out, List.flatMap_append, List.append_assoc]
        simp
      have hzl : (Z (k + 1)).length ≤ 1099511627786 := by
        have h1 := HLM.out
        have h2 := HUV.out
        have h3 : ((l.take (k + 1)).flatMap g).length ≤ (l.flatMap g).length := by
          conv => rhs; rw [← List.take_append_drop (k + 1) l, List.flatMap_append, List.length_append]
          omega
        rw [HZ.out]
        dsimp only
        rw [List.length_append]
        omega
      have HZS := Lib.hid hzs
      have HZL := Lib.hid hzl
      have HFX := Lib.hid (HF.out k x _ wr HX.out HBS.out.bel HV.out)
      clear hkl hx hoW hzs hzl
      have hk0 : (0 : Int) ≤ k := by omega
      have hkn : (k : Int) < (n : Int) := by omega
      have he := HE.out
      go_wp2_with fail
      refine HFX.out.mono ?_
      rintro e w2 ⟨v2, rfl, s2⟩
      have hb5 := HBS.out.keep s2.bel
      have HRUN : Hid (∀ ty, ∃ v' w', (Builtin.append_ #[71, 71] ty #[.slice ao5 m5 c5, v2]).run Tryz.prog w2 = .ok v' w' ∧ RowIs w' v' (Z (k + 1)) ∧ Grew w2 (.slice ao5 m5 c5) w' v') := Lib.hid (fun ty => by
        have hzl := HZL.out
        rw [HZS.out, List.length_append] at hzl
        rw [HZS.out]
        unfold RowIs
        rw [List.length_append, byteCells_append]
        rcases s2.row.2 with ⟨rfl, h0⟩ | ⟨g2, cap2, cur2, rfl, _⟩
        · have hg0 : g x = [] := List.eq_nil_of_length_eq_zero h0
          refine ⟨_, _, run_append_empty _ _ ty _ j0 1 Tryz.underlying71 hji _ _ _ hb5.row none 0, ?_, Grew.refl _ _⟩
          rw [hg0]
          have q := hb5.row
          unfold RowIs at q
          rw [List.length_nil, Nat.add_zero, show Lib.byteCells [] = [] from rfl, List.append_nil]
          exact q
        · exact run_append_fine (P := Tryz.prog) w2 71 ty 5 j0 (.int .u8 0) 1 1 Tryz.underlying71 hji hz0 hz1 hz2 rfl (by decide) _ _ _ hb5.row ⟨g2, 0, none⟩ (g x).length cap2 (Lib.byteCells (g x)) (by rw [byteCells_length, Nat.mul_one])
            (s2.row.cells (g := g2) rfl) (byteCells_one _) (by unfold maxLen; omega) (by omega))
      have HB5 := Lib.hid hb5
      obtain ⟨ao2, m2, c2, rfl⟩ := row_shape s2.row
      clear s2 hb5 he d0
      go_wp2_with (at_builtin; (obtain ⟨v', w', hrun, hrow', hgrow⟩ := HRUN.out _; refine wpList_append_eq rfl _ _ 71 rfl _ _ v' w' rfl rfl hrun ?_))
      have hbs' : BS w w' v' (Z (k + 1)) := ⟨hrow', fun g hg => by
        rcases hgrow.came with e | e
        · exact HB5.out.own g (e ▸ hg)
        · exact Nat.le_trans HB5.out.bel.size (e g hg), HB5.out.bel.trans (hgrow.only.below HB5.out.bel.size (fun q hq => HB5.out.own q hq))⟩
      have HBS' := Lib.hid hbs'
      clear hbs' hrow' hgrow hrun
      go_wp2
      go_roundw
      case rel => exact ⟨k + 1, by omega, by go_num, HBS'.out⟩
      case measure => simp [intOf]; omega
    · obtain rfl : k = n := by omega
      have hfin : BS w wr (.slice ao5 m5 c5) Y := by
        have h := HBS.out
        rw [HZ.out] at h
        dsimp only at h
        rw [HY.out, listB, ← HN.out]
        rw [List.take_of_length_le (by rw [HN.out]; exact Nat.le_refl _)] at h
        exact h
      have HF' := Lib.hid hfin
      clear hfin
      go_wp2
      go_ret
      exact ⟨_, rfl, HF'.out⟩
end Go.Proofs.YtpincofjopmaaaaGreatDoor
